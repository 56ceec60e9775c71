/- The document's own SHA-256, HMAC and HKDF. Conditions: rows of few bytes. -/
import Derived.Test.YtgdnmbchhfbjoaaDoorGRow
import Derived.Test.YtgdnmbchhfbjoaaDoorHHash
import Derived.Test.YtgdnmbchhfbjoaaDoorHLarge
import Derived.DeepKeys
import Derived.Laws.StructEq
import Derived.Lay
import Derived.Test.YtgdnmbchhfbjoaaDoorGParts
import Derived.Test.YtgdnmbchhfbjoaaDoorHDerive
import Derived.Deep.DeepCutAuto

namespace Go.Proofs.YtgdnmbchhfbjoaaDoor
open Go.RowKit

/-- The row of filled as far as k noughts are laid. -/
def noughted (m : List UInt8) (k : Nat) : List UInt8 := m ++ (128 :: List.replicate k 0)
theorem noughted_len (m : List UInt8) (k : Nat) : (noughted m k).length = m.length + 1 + k := by simp [noughted]; omega
theorem noughted_succ (m : List UInt8) (k : Nat) : noughted m (k + 1) = noughted m k ++ [0] := by
  simp [noughted, List.replicate_succ']
theorem noughted_tail (m : List UInt8) (i : Nat) : m ++ tailed m.length i = noughted m (Sh.noughts m.length) ++ (Sh.be8 (m.length * 8)).take i := by
  simp [noughted, tailed]

set_option maxRecDepth 100000 in
set_option maxHeartbeats 1000000 in
theorem filled_any {w : World} {S : Nat → Prop} {v : Value} {m : List UInt8} (hv : BytesAt w S v m) (hS : ∀ k, S k → k < w.heap.size) (hlen : m.length ≤ 1099511627776) :
    Calls Tryd.prog 61 #[v] w fun e w' => ∃ a c, e = .returned (.slice a (m ++ Sh.pad m.length).length c) ∧ Row w w' (.slice a (m ++ Sh.pad m.length).length c) (m ++ Sh.pad m.length) := by
  obtain ⟨va, vc, rfl⟩ := hv.shape
  have hb0 : (w.alloc (.cells #[] 5)).ownsRow 0 5 1 (.slice (some ⟨w.heap.size, 0, none⟩) 0 0) 0 [] := World.ownsRow_made w #[] 0 (Nat.zero_le _) (Nat.zero_le _) rfl
  have hsrc := hv.only (Only.alloc (w := w) (.cells #[] 5)) hS (fun _ _ x => x)
  have HB := Lib.hid hb0; have HSRC := Lib.hid hsrc; have HL := Lib.hid hlen
  have hli : (m.length : Int) ≤ 1099511627776 := by omega
  obtain ⟨z, hz⟩ : ∃ z, Sh.noughts m.length = z := ⟨_, rfl⟩
  have hz64 : z < 64 := by rw [← hz]; exact noughts_lt _
  have hzm : (m.length + 1 + z) % 64 = 56 := by rw [← hz]; unfold Sh.noughts; omega
  have HZ := Lib.hid hz
  clear hv hS hb0 hsrc hlen hz
  go_enter Tryd.func61, Tryd.ntmps61
  go_wp2_with (first
    | (at_builtin; refine wpList_append_bytes _ rfl _ _ rfl (.slice (some ⟨w.heap.size, 0, none⟩) 0 0) (.slice va m.length vc) 0 [] rfl rfl HB.out HSRC.out (by have := HL.out; omega) ?_; intro a1 c1 w1 hr1 hg1 hat1; have h1 : Row w w1 (.slice a1 (0 + m.length) c1) ([] ++ m) := Row.app (wr := w.alloc (.cells #[] 5)) (ov := .slice (some ⟨w.heap.size, 0, none⟩) 0 0) ⟨HB.out, fun q hq => by have : w.heap.size = q := Option.some.inj hq; omega, Only.alloc _⟩ (Only.refl _ _) (by simp) hr1 hg1 hat1; rw [Nat.zero_add, List.nil_append] at h1; have H1 := Lib.hid h1; have HR1 := Lib.hid (h1.keep (Only.alloc (.cells #[byteV 128] 5))); clear hr1 hg1 hat1 h1)
    | (at_builtin; refine wpList_append_bytes _ rfl _ _ rfl (.slice a1 m.length c1) (.slice (some ⟨w1.heap.size, 0, none⟩) 1 1) m.length (m.map byteV) rfl rfl HR1.out (one_byte w1 128) (by have := HL.out; simp; omega) ?_; intro a2 c2 w2 hr2 hg2 hat2; have H2 := Lib.hid (Row.app H1.out (Only.alloc (.cells #[byteV 128] 5)) rfl hr2 hg2 hat2); clear hr2 hg2 hat2))
  have HST : Hid (Row w w2 (.slice a2 (m.length + 1) c2) (noughted m 0)) := H2.out
  clear H2 H1 HR1 HB HSRC
  go_loopw [3] (fun ov wr => ∃ k : Nat, k ≤ z ∧ Row w wr ov (noughted m k)) (fun ov _ => match ov with | .slice _ n _ => m.length + 1 + z - n | _ => 0)
  case atStart => exact ⟨0, Nat.zero_le _, HST.out⟩
  case round =>
    obtain ⟨k, hk, hr⟩ := hrel
    obtain ⟨oa, oc, rfl⟩ := hr.shape
    rw [noughted_len] at *
    by_cases hlt : k < z
    · have hne : (((m.length : Int) + 1 + (k : Int)) % 64 != 56) = true := by simp; omega
      have HR := Lib.hid hr
      have HK := Lib.hid (hr.keep (Only.alloc (.cells #[byteV 0] 5)))
      clear hr hzm
      go_wp2_with (at_builtin; refine wpList_append_bytes _ rfl _ _ rfl (.slice oa (m.length + 1 + k) oc) (.slice (some ⟨wr.heap.size, 0, none⟩) 1 1) (m.length + 1 + k) ((noughted m k).map byteV) rfl rfl (by have := HK.out; rw [noughted_len] at this; exact this) (one_byte wr 0) (by have := HL.out; simp; omega) ?_; intro a3 c3 w3 hr3 hg3 hat3; have h3 := Row.app (n := m.length + 1 + k + 1) HR.out (Only.alloc (.cells #[byteV 0] 5)) (by rw [noughted_len]; rfl) hr3 hg3 hat3; rw [← noughted_succ] at h3; have H3 := Lib.hid h3; clear hr3 hg3 hat3 h3)
      exact ⟨⟨k + 1, by omega, H3.out⟩, by simp; omega⟩
    · obtain rfl : k = z := by omega
      have hne : (((m.length : Int) + 1 + (k : Int)) % 64 != 56) = false := by simp; omega
      have e0 := noughted_tail m 0
      rw [HZ.out, List.take_zero, List.append_nil] at e0
      have HST2 : Hid (Row w wr (.slice oa (m.length + 1 + k) oc) (m ++ tailed m.length 0)) := by rw [e0]; exact hr
      clear hr hzm e0
      go_wp2
      clear hne
      go_loopw [3, 5] (fun ov iv wr => ∃ i : Nat, i ≤ 8 ∧ iv = .int .i64 i ∧ Row w wr ov (m ++ tailed m.length i)) (fun _ iv _ => 8 - (intOf iv).toNat)
      case atStart => exact ⟨0, Nat.zero_le _, rfl, HST2.out⟩
      case round =>
        obtain ⟨i, hi, rfl, hr⟩ := hrel
        obtain ⟨oa, oc, rfl⟩ := hr.shape
        have hlen : (m ++ tailed m.length i).length = m.length + (1 + k + i) := by rw [List.length_append, tailed_len hi, HZ.out]
        by_cases hlt : i < 8
        · have hrow := hr.keep (Only.alloc (.cells #[.int .u8 ((m.length : Int) * 8 / 2 ^ (56 - 8 * i) % 256)] 5))
          rw [hlen] at hrow
          rw [hlen]
          have e : byteV (UInt8.ofNat (m.length * 8 / 2 ^ (8 * (7 - i)))) = .int .u8 ((m.length : Int) * 8 / 2 ^ (56 - 8 * i) % 256) := by
            unfold byteV
            rw [byte_of_nat, show 8 * (7 - i) = 56 - 8 * i by omega]
            simp
          have hsr := one_byte wr (UInt8.ofNat (m.length * 8 / 2 ^ (8 * (7 - i))))
          rw [e] at hsr
          have HSR := Lib.hid hsr; have HROW := Lib.hid hrow; have HR := Lib.hid hr; have HTS := Lib.hid (tailed_succ (n := m.length) hlt)
          have HLEN := Lib.hid hlen
          clear hr hrow hsr e hlen
          go_wp2_with (at_builtin; refine wpList_append_bytes _ rfl _ _ rfl (.slice oa (m.length + (1 + k + i)) oc) (.slice (some ⟨wr.heap.size, 0, none⟩) 1 1) (m.length + (1 + k + i)) ((m ++ tailed m.length i).map byteV) rfl rfl HROW.out HSR.out (by have := HL.out; simp; omega) ?_; intro a3 c3 w3 hr3 hg3 hat3; have hro := HR.out; rw [HLEN.out] at hro; have h3 := Row.app (n := m.length + (1 + k + i) + 1) hro (Only.alloc (.cells #[.int .u8 ((m.length : Int) * 8 / 2 ^ (56 - 8 * i) % 256)] 5)) (by rw [HLEN.out]; rfl) hr3 hg3 hat3; rw [List.append_assoc, ← HTS.out] at h3; have H3 := Lib.hid h3; clear hr3 hg3 hat3 h3 hro)
          exact ⟨⟨i + 1, by omega, by go_num, H3.out⟩, by simp [intOf]; omega⟩
        · obtain rfl : i = 8 := by omega
          rw [tailed_all] at hr ⊢
          have HR := Lib.hid hr
          clear hr hlen
          go_wp2
          go_ret
          exact ⟨oa, oc, rfl, HR.out⟩

end Go.Proofs.YtgdnmbchhfbjoaaDoor

namespace Go.Proofs.YtgdnmbchhfbjoaaDoor
open Go.RowKit

theorem Blk.ne_row {w : World} {g n q : Nat} {L xs : List Value} {t : TypeId} {v : Value} (h : Blk w g L t) (hr : w.ownsRow 0 5 1 v n xs) (ht : t ≠ 5) (hq : v.ownBlock = some q) : q ≠ g := by
  rintro rfl
  rcases hr.2 with ⟨e, _⟩ | ⟨g', cap, cur, e, _, hb, _⟩
  · rw [e] at hq; cases hq
  · rw [e] at hq
    have e1 : g' = q := Option.some.inj hq
    subst e1
    have h2 := h.heap
    rw [hb] at h2
    have h3 := Option.some.inj h2
    injection h3 with _ h4 _
    exact ht h4.symm

def kpairs : List (Nat × Value) := Sh.ks.zipIdx.map fun p => (p.2, wordV p.1)
theorem built_k : Tryd.prog.built 101 kpairs = some (Sh.ks.map wordV).toArray := by kernel_rfl
def hpairs : List (Nat × Value) := Sh.h0.list.zipIdx.map fun p => (p.2, wordV p.1)
theorem built_h : Tryd.prog.built 102 hpairs = some (hscells Sh.h0).toArray := by kernel_rfl
theorem built_w : Tryd.prog.built 101 [] = some (wcells []).toArray := by kernel_rfl
theorem built_o : Tryd.prog.built 22 [] = some (ocells 32 []).toArray := by kernel_rfl
theorem size_64w : (Tryd.prog.info? 101).map (·.size) = some 64 := by kernel_rfl
theorem size_8w : (Tryd.prog.info? 102).map (·.size) = some 8 := by kernel_rfl

/-- What the loop over the blocks keeps. -/
structure RefIn (w wr : World) (gk gh : Nat) (mv : Value) (M : List UInt8) (s : Sh.V8) : Prop where
  res : Blk wr w.heap.size (ocells 32 []) 22
  k : Blk wr gk (Sh.ks.map wordV) 101
  h : Blk wr gh (hscells s) 102
  row : Row w wr mv M
  gk : w.heap.size ≤ gk
  gh : w.heap.size ≤ gh

theorem RefIn.kept {w wr w1 : World} {gk gh : Nat} {mv : Value} {M : List UInt8} {s : Sh.V8} (h : RefIn w wr gk gh mv M s) (ho : Only (fun _ => False) wr w1) : RefIn w w1 gk gh mv M s :=
  ⟨h.res.keep ho (fun x => x), h.k.keep ho (fun x => x), h.h.keep ho (fun x => x), h.row.kept ho, h.gk, h.gh⟩

/-- The bytes of a block, from a row. -/
theorem row_cell {w wr : World} {bs : List UInt8} {a : Option Addr} {c : Nat} (h : Row w wr (.slice a bs.length c) bs) (hne : bs ≠ []) : ∃ g, a = some ⟨g, 0, none⟩ ∧ ∀ j, j < bs.length → wr.cell? ⟨g, j, none⟩ = some (.int .u8 ((bs.getD j 0).toNat : Int)) := by
  rcases h.row.2 with ⟨_, e⟩ | ⟨g, cap, cur, e, _⟩
  · exact absurd (List.eq_nil_of_length_eq_zero e) hne
  · obtain ⟨e1, _, _⟩ := Value.slice.inj e
    subst e1
    refine ⟨g, rfl, fun j hj => ?_⟩
    have := h.row.cells (g := g) rfl j (byteV bs[j]) (by simp [hj])
    rw [add_lit, Nat.zero_add] at this
    rw [this]
    simp [byteV, hj]

def partN (b : Nat → UInt8) : Nat → Nat
  | 0 => 0
  | q + 1 => partN b q * 256 + (b q).toNat
theorem partN_lt (b : Nat → UInt8) : ∀ q, partN b q < 256 ^ q
  | 0 => by simp [partN]
  | q + 1 => by
    have h1 := partN_lt b q
    have h2 := (b q).toNat_lt
    show partN b q * 256 + (b q).toNat < 256 ^ (q + 1)
    rw [Nat.pow_succ]
    omega
theorem partN_word (b : Nat → UInt8) : ((partN b 4 : Nat) : Int) = Sh.word (b 0) (b 1) (b 2) (b 3) := by
  simp only [partN, Sh.word]
  omega

theorem grow_take (ws : List Int) : ∀ n j, j ≤ n → (Sh.grow n ws).take (ws.length + j) = Sh.grow j ws
  | 0, j, h => by
    obtain rfl : j = 0 := by omega
    simp [Sh.grow]
  | n + 1, j, h => by
    by_cases e : j = n + 1
    · subst e
      exact List.take_of_length_le (by rw [grow_len]; omega)
    · rw [grow_snoc, List.take_append_of_le_length (by rw [grow_len]; omega)]
      exact grow_take ws n j (by omega)
theorem sched_take (blk : List UInt8) (t : Nat) (h1 : 16 ≤ t) (h2 : t ≤ 64) : (Sh.sched blk).take t = Sh.grow (t - 16) (Sh.first16 blk) := by
  have := grow_take (Sh.first16 blk) 48 (t - 16) (by omega)
  rw [first16_len, show 16 + (t - 16) = t by omega] at this
  exact this
theorem sched_take_low (blk : List UInt8) (t : Nat) (h : t ≤ 16) : (Sh.sched blk).take t = (Sh.first16 blk).take t := by
  have := sched_take blk 16 (by omega) (by omega)
  rw [show 16 - 16 = 0 from rfl] at this
  have e : (Sh.sched blk).take t = ((Sh.sched blk).take 16).take t := by rw [List.take_take, Nat.min_eq_left h]
  rw [e, this]
  rfl
theorem sched_take_len (blk : List UInt8) (t : Nat) (h : t ≤ 64) : ((Sh.sched blk).take t).length = t := by
  rw [List.length_take, sched_len]; omega
theorem sched_low_succ (blk : List UInt8) (t : Nat) (h : t < 16) : (Sh.sched blk).take (t + 1) = (Sh.sched blk).take t ++ [((partN (fun q => blk.getD (4 * t + q) 0) 4 : Nat) : Int)] := by
  rw [sched_take_low _ _ (by omega), sched_take_low _ _ (by omega), first16_take h, partN_word]
  rfl
theorem sched_high_succ (blk : List UInt8) (t : Nat) (h1 : 16 ≤ t) (h2 : t < 64) : (Sh.sched blk).take (t + 1) = (Sh.sched blk).take t ++ [Sh.next ((Sh.sched blk).take t)] := by
  rw [sched_take _ _ h1 (by omega), sched_take _ _ (by omega) (by omega), show t + 1 - 16 = (t - 16) + 1 by omega]
  exact grow_snoc _ _

theorem Row.base {w w2 wr : World} {ov : Value} {bs : List UInt8} (h : Row w2 wr ov bs) (ho : Only (fun _ => False) w w2) : Row w wr ov bs :=
  ⟨h.row, fun q hq => Nat.le_trans ho.size (h.own q hq), ho.trans h.only⟩

theorem or_byte (x : Nat) (b : UInt8) (h : x < 16777216) : bits .or .u32 ((x : Int) * 256) (b.toNat : Int) = ((x * 256 + b.toNat : Nat) : Int) := by
  have hb := b.toNat_lt
  exact or_add' x b.toNat 8 256 _ _ _ (by decide) (by omega) (by omega) (by omega) rfl rfl

end Go.Proofs.YtgdnmbchhfbjoaaDoor

namespace Go.Proofs.YtgdnmbchhfbjoaaDoor
open Go.RowKit

/-- The loops of a text, outer ones first. -/
def loopsOf : Code → List Code
  | .loop c => c :: loopsOf c
  | .seq a b => loopsOf a ++ loopsOf b
  | .block _ c => loopsOf c
  | .scope c => loopsOf c
  | .cond _ a b => loopsOf a ++ loopsOf b
  | _ => []
noncomputable def rloop (n : Nat) : Code := ((Tryd.f51.body.map loopsOf).getD []).getD n .skip

end Go.Proofs.YtgdnmbchhfbjoaaDoor

namespace Go.Proofs.YtgdnmbchhfbjoaaDoor
open Go.RowKit

set_option maxRecDepth 1000000 in
set_option maxHeartbeats 4000000 in
theorem ref_word (c0 c1 c2 c3 c5 c6 c11 c12 c13 c14 c15 c16 c17 c18 c19 c20 c21 c22 c23 c24 c25 c26 c27 c28 c29 c30 c31 c32 c33 c34 c35 c36 c37 c38 c39 c40 c41 c42 c43 c44 c45 c46 c47 c48 c49 c50 c51 c52 c53 c54 c55 c56 c57 c58 c59 c60 c61 c62 c63 c64 c65 c66 c67 c68 c69 c70 c71 c72 c73 c74 c75 c76 c77 c78 c79 c80 c81 c82 c83 c84 c85 c86 c87 c88 c89 c90 c91 c92 c93 c94 c95 c96 c97 c98 c99 c100 c101 c102 c103 c104 c105 c106 c107 c108 c109 c110 c111 c112 c113 c114 c115 c116 c117 c118 c119 c120 c121 c122 c123 c124 c125 c126 c127 c128 c129 c130 c131 c132 c133 c134 c135 c136 c137 c138 c139 c140 c141 c142 c143 c144 c145 c146 c147 c148 c149 c150 c151 c152 c153 c154 c155 c156 c157 c158 c159 c160 c161 c162 c163 c164 c165 c166 c167 c168 c169 c170 c171 c172 c173 c174 c175 c176 c177 c178 c179 c180 c181 c182 c183 c184 c185 c186 c187 c188 c189 c190 c191 c192 c193 c194 c195 c196 c197 c198 c199 c200 c201 c202 c203 c204 c205 c206 c207 c208 c209 c210 c211 c212 c213 c214 c215 c216 c217 c218 c219 c220 c221 c222 c223 c224 c225 c226 c227 c228 c229 c230 c231 : Value) {w : World} {g gw n cap at_ t : Nat} {b : Nat → UInt8} {ws : List Value} (hw : Blk w gw (ws.set t (wordV ((partN b 0 : Nat) : Int))) 101) (hl : ws.length = 64) (ht : t < 16) (hat : at_ + 64 ≤ n) (hn : n ≤ 1099511627776) (hcb : ∀ q, q < 4 → ∀ w', Only (fun k => k = gw) w w' → w'.cell? ⟨g, at_ + (4 * t + q), none⟩ = some (.int .u8 ((b q).toNat : Int))) (Q0 : Exit → Act → World → Prop)
    (hexit : ∀ (u10 u52 u53 u54 u55 u56 u57 u58 u59 u60 u61 u62 u63 u64 u65 u66 u67 u68 u69 u70 u71 u72 : Value) w', Blk w' gw (ws.set t (wordV ((partN b 4 : Nat) : Int))) 101 → Only (fun k => k = gw) w w' → Q0 (.exit 6) ⟨List.toArray (c0 :: c1 :: c2 :: c3 :: .slice (some ⟨g, 0, none⟩) n cap :: c5 :: c6 :: .int .i64 (at_ : Int) :: .pointer (some ⟨gw, 0, none⟩) :: .int .i64 (t : Int) :: u10 :: c11 :: c12 :: c13 :: c14 :: c15 :: c16 :: c17 :: c18 :: c19 :: c20 :: c21 :: c22 :: c23 :: c24 :: c25 :: c26 :: c27 :: c28 :: c29 :: c30 :: c31 :: c32 :: c33 :: c34 :: c35 :: c36 :: c37 :: c38 :: c39 :: c40 :: c41 :: c42 :: c43 :: c44 :: c45 :: c46 :: c47 :: c48 :: c49 :: c50 :: c51 :: u52 :: u53 :: u54 :: u55 :: u56 :: u57 :: u58 :: u59 :: u60 :: u61 :: u62 :: u63 :: u64 :: u65 :: u66 :: u67 :: u68 :: u69 :: u70 :: u71 :: u72 :: c73 :: c74 :: c75 :: c76 :: c77 :: c78 :: c79 :: c80 :: c81 :: c82 :: c83 :: c84 :: c85 :: c86 :: c87 :: c88 :: c89 :: c90 :: c91 :: c92 :: c93 :: c94 :: c95 :: c96 :: c97 :: c98 :: c99 :: c100 :: c101 :: c102 :: c103 :: c104 :: c105 :: c106 :: c107 :: c108 :: c109 :: c110 :: c111 :: c112 :: c113 :: c114 :: c115 :: c116 :: c117 :: c118 :: c119 :: c120 :: c121 :: c122 :: c123 :: c124 :: c125 :: c126 :: c127 :: c128 :: c129 :: c130 :: c131 :: c132 :: c133 :: c134 :: c135 :: c136 :: c137 :: c138 :: c139 :: c140 :: c141 :: c142 :: c143 :: c144 :: c145 :: c146 :: c147 :: c148 :: c149 :: c150 :: c151 :: c152 :: c153 :: c154 :: c155 :: c156 :: c157 :: c158 :: c159 :: c160 :: c161 :: c162 :: c163 :: c164 :: c165 :: c166 :: c167 :: c168 :: c169 :: c170 :: c171 :: c172 :: c173 :: c174 :: c175 :: c176 :: c177 :: c178 :: c179 :: c180 :: c181 :: c182 :: c183 :: c184 :: c185 :: c186 :: c187 :: c188 :: c189 :: c190 :: c191 :: c192 :: c193 :: c194 :: c195 :: c196 :: c197 :: c198 :: c199 :: c200 :: c201 :: c202 :: c203 :: c204 :: c205 :: c206 :: c207 :: c208 :: c209 :: c210 :: c211 :: c212 :: c213 :: c214 :: c215 :: c216 :: c217 :: c218 :: c219 :: c220 :: c221 :: c222 :: c223 :: c224 :: c225 :: c226 :: c227 :: c228 :: c229 :: c230 :: c231 :: []), []⟩ w') :
    Code.wp Tryd.prog (Code.loop (rloop 3)) Q0 ⟨List.toArray (c0 :: c1 :: c2 :: c3 :: .slice (some ⟨g, 0, none⟩) n cap :: c5 :: c6 :: .int .i64 (at_ : Int) :: .pointer (some ⟨gw, 0, none⟩) :: .int .i64 (t : Int) :: .int .i64 0 :: c11 :: c12 :: c13 :: c14 :: c15 :: c16 :: c17 :: c18 :: c19 :: c20 :: c21 :: c22 :: c23 :: c24 :: c25 :: c26 :: c27 :: c28 :: c29 :: c30 :: c31 :: c32 :: c33 :: c34 :: c35 :: c36 :: c37 :: c38 :: c39 :: c40 :: c41 :: c42 :: c43 :: c44 :: c45 :: c46 :: c47 :: c48 :: c49 :: c50 :: c51 :: c52 :: c53 :: c54 :: c55 :: c56 :: c57 :: c58 :: c59 :: c60 :: c61 :: c62 :: c63 :: c64 :: c65 :: c66 :: c67 :: c68 :: c69 :: c70 :: c71 :: c72 :: c73 :: c74 :: c75 :: c76 :: c77 :: c78 :: c79 :: c80 :: c81 :: c82 :: c83 :: c84 :: c85 :: c86 :: c87 :: c88 :: c89 :: c90 :: c91 :: c92 :: c93 :: c94 :: c95 :: c96 :: c97 :: c98 :: c99 :: c100 :: c101 :: c102 :: c103 :: c104 :: c105 :: c106 :: c107 :: c108 :: c109 :: c110 :: c111 :: c112 :: c113 :: c114 :: c115 :: c116 :: c117 :: c118 :: c119 :: c120 :: c121 :: c122 :: c123 :: c124 :: c125 :: c126 :: c127 :: c128 :: c129 :: c130 :: c131 :: c132 :: c133 :: c134 :: c135 :: c136 :: c137 :: c138 :: c139 :: c140 :: c141 :: c142 :: c143 :: c144 :: c145 :: c146 :: c147 :: c148 :: c149 :: c150 :: c151 :: c152 :: c153 :: c154 :: c155 :: c156 :: c157 :: c158 :: c159 :: c160 :: c161 :: c162 :: c163 :: c164 :: c165 :: c166 :: c167 :: c168 :: c169 :: c170 :: c171 :: c172 :: c173 :: c174 :: c175 :: c176 :: c177 :: c178 :: c179 :: c180 :: c181 :: c182 :: c183 :: c184 :: c185 :: c186 :: c187 :: c188 :: c189 :: c190 :: c191 :: c192 :: c193 :: c194 :: c195 :: c196 :: c197 :: c198 :: c199 :: c200 :: c201 :: c202 :: c203 :: c204 :: c205 :: c206 :: c207 :: c208 :: c209 :: c210 :: c211 :: c212 :: c213 :: c214 :: c215 :: c216 :: c217 :: c218 :: c219 :: c220 :: c221 :: c222 :: c223 :: c224 :: c225 :: c226 :: c227 :: c228 :: c229 :: c230 :: c231 :: []), []⟩ w := by
  conv => arg 2; arg 1; whnf
  have HW := Lib.hid hw; have HX := Lib.hid hexit; have HCB := Lib.hid hcb
  clear hw hexit hcb
  go_loopw [10] (fun qv wr => ∃ q : Nat, q ≤ 4 ∧ qv = .int .i64 q ∧ Blk wr gw (ws.set t (wordV ((partN b q : Nat) : Int))) 101 ∧ Only (fun k => k = gw) w wr) (fun qv _ => 4 - (intOf qv).toNat)
  case atStart => exact ⟨0, Nat.zero_le _, rfl, HW.out, Only.refl _ _⟩
  case round =>
    obtain ⟨q, hq, rfl, hw, ho⟩ := hrel
    by_cases hq4 : q < 4
    · have cb1 := HCB.out q hq4 wr ho
      have cw : wr.cell? ⟨gw, t, none⟩ = some (.int .u32 ((partN b q : Nat) : Int)) := by
        rw [hw.cell, List.getElem?_set_self (by omega)]; rfl
      have cf : wr.drew.frozen? ⟨gw, t, none⟩ = false := hw.frozen t
      have hpl := partN_lt b q
      have hp24 : partN b q < 16777216 := Nat.lt_of_lt_of_le hpl (by
        have : 256 ^ q ≤ 256 ^ 3 := Nat.pow_le_pow_right (by decide) (by omega)
        exact this)
      have HNX : Hid (Blk (wr.drew.setCell ⟨gw, t, none⟩ (.int .u32 ((partN b (q + 1) : Nat) : Int))) gw (ws.set t (wordV ((partN b (q + 1) : Nat) : Int))) 101) := by
        have := hw.drew.set t (wordV ((partN b (q + 1) : Nat) : Int))
        rw [List.set_set] at this
        exact Lib.hid this
      have HON : Hid (∀ v, Only (fun k => k = gw) w (wr.drew.setCell ⟨gw, t, none⟩ v)) := fun v =>
        (ho.trans (Only.drew.mono (fun _ _ x => x.elim))).trans (Only.setCell ⟨gw, t, none⟩ _)
      have HOR := Lib.hid (or_byte (partN b q) (b q) hp24)
      have HPS : Hid (partN b (q + 1) = partN b q * 256 + (b q).toNat) := rfl
      have hbq := (b q).toNat_lt
      have k1 : IntKind.i64.wrap (4 * (t : Int)) = 4 * (t : Int) := IntWalk.i64_in _ (by omega)
      have k2 : IntKind.i64.wrap ((at_ : Int) + 4 * (t : Int)) = (at_ : Int) + 4 * (t : Int) := IntWalk.i64_in _ (by omega)
      have k3 : IntKind.i64.wrap ((at_ : Int) + 4 * (t : Int) + (q : Int)) = (at_ : Int) + 4 * (t : Int) + (q : Int) := IntWalk.i64_in _ (by omega)
      have k4 : ((at_ : Int) + 4 * (t : Int) + (q : Int)).toNat = at_ + (4 * t + q) := by omega
      have p1 : 0 ≤ (at_ : Int) + 4 * (t : Int) + (q : Int) := by omega
      have p2 : (at_ : Int) + 4 * (t : Int) + (q : Int) < (n : Int) := by omega
      have pz : 0 ≤ (t : Int) := by omega
      have mz : (t : Int) < 64 := by omega
      have ki : IntKind.u32.wrap (((partN b q : Nat) : Int) * 256) = ((partN b q : Nat) : Int) * 256 := Int.emod_eq_of_lt (by omega) (show ((partN b q : Nat) : Int) * 256 < 4294967296 by omega)
      clear hw ho hpl hp24 hl hn hat
      generalize partN b q = x at *
      generalize b q = y at *
      have HK1 := Lib.hid k1; have HK2 := Lib.hid k2; have HK3 := Lib.hid k3; have HK4 := Lib.hid k4; have HP1 := Lib.hid p1; have HP2 := Lib.hid p2; have HPZ := Lib.hid pz; have HMZ := Lib.hid mz; have HKI := Lib.hid ki
      clear k1 k2 k3 k4 p1 p2 pz mz ki
      go_wp2
      have k1 := HK1.out; have k2 := HK2.out; have k3 := HK3.out; have k4 := HK4.out; have p1 := HP1.out; have p2 := HP2.out; have pz := HPZ.out; have mz := HMZ.out; have ki := HKI.out
      clear HK1 HK2 HK3 HK4 HP1 HP2 HPZ HMZ HKI
      go_still_tail 17, (by kernel_rfl)
      change wpList _ _ _ _ _ wr.drew
      have cw' : wr.drew.cell? ⟨gw, t, none⟩ = some (.int .u32 (x : Int)) := cw
      clear cw cb1
      generalize wr.drew = w8 at *
      go_wp2
      refine ⟨⟨q + 1, by omega, by go_num, ?_, HON.out _⟩, by simp [intOf]; omega⟩
      rw [HOR.out, ← HPS.out]
      exact HNX.out
    · obtain rfl : q = 4 := by omega
      have HNX := Lib.hid hw; have HON := Lib.hid ho
      clear hw ho
      go_wp2
      exact HX.out _ _ _ _ _ _ _ _ _ _ _ _ _ _ _ _ _ _ _ _ _ _ wr HNX.out HON.out

end Go.Proofs.YtgdnmbchhfbjoaaDoor

namespace Go.Proofs.YtgdnmbchhfbjoaaDoor
open Go.RowKit

/-- The words of a block's schedule, by what each of them is. -/
structure Sched (blk : List UInt8) (W : List Int) : Prop where
  len : ∀ t, t ≤ 64 → (W.take t).length = t
  low : ∀ t, t < 16 → W.take (t + 1) = W.take t ++ [((partN (fun q => blk.getD (4 * t + q) 0) 4 : Nat) : Int)]
  high : ∀ t, 16 ≤ t → t < 64 → W.take (t + 1) = W.take t ++ [Sh.next (W.take t)]
  all : W.take 64 = W
theorem sched_of (blk : List UInt8) : Sched blk (Sh.sched blk) :=
  ⟨sched_take_len blk, sched_low_succ blk, sched_high_succ blk, List.take_of_length_le (by rw [sched_len]; omega)⟩
/-- A block of 64 bytes lies in a row. -/
structure HFits (at_ n : Nat) : Prop where
  hat : at_ + 64 ≤ n
  hn : n ≤ 1099511627776
theorem turn_same (x n : Int) (hn : n ∈ Sh.turns) (w : World) : Calls Tryd.prog 62 #[.int .u32 x, .int .u64 n] w fun e w' => e = .returned (.int .u32 (Sh.rot x n)) ∧ w' = w :=
  (turn_any x n hn w).mono fun _ _ h => ⟨h.1, h.2.symm⟩
theorem wcells_again {ws : List Int} {t : Nat} (h : ws.length ≤ t) (ht : t < 64) (hl : ws.length ≤ 64) (b : Nat → UInt8) : (wcells ws).set t (wordV ((partN b 0 : Nat) : Int)) = wcells ws := by
  have h0 := wcells_zero (ws := ws) (j := t) h ht
  apply List.ext_getElem?
  intro i
  by_cases e : t = i
  · subst e
    rw [List.getElem?_set_self (by rw [wcells_length _ hl]; omega), h0]
    rfl
  · rw [List.getElem?_set_ne e]

set_option maxRecDepth 1000000 in
set_option maxHeartbeats 4000000 in
theorem ref_sched (c0 c1 c2 c3 c5 c6 c10 c11 c12 c13 c14 c15 c16 c17 c18 c19 c20 c21 c22 c23 c24 c25 c26 c27 c28 c29 c30 c31 c32 c33 c34 c35 c36 c37 c38 c39 c40 c41 c42 c43 c44 c45 c46 c47 c48 c49 c50 c51 c52 c53 c54 c55 c56 c57 c58 c59 c60 c61 c62 c63 c64 c65 c66 c67 c68 c69 c70 c71 c72 c73 c74 c75 c76 c77 c78 c79 c80 c81 c82 c83 c84 c85 c86 c87 c88 c89 c90 c91 c92 c93 c94 c95 c96 c97 c98 c99 c100 c101 c102 c103 c104 c105 c106 c107 c108 c109 c110 c111 c112 c113 c114 c115 c116 c117 c118 c119 c120 c121 c122 c123 c124 c125 c126 c127 c128 c129 c130 c131 c132 c133 c134 c135 c136 c137 c138 c139 c140 c141 c142 c143 c144 c145 c146 c147 c148 c149 c150 c151 c152 c153 c154 c155 c156 c157 c158 c159 c160 c161 c162 c163 c164 c165 c166 c167 c168 c169 c170 c171 c172 c173 c174 c175 c176 c177 c178 c179 c180 c181 c182 c183 c184 c185 c186 c187 c188 c189 c190 c191 c192 c193 c194 c195 c196 c197 c198 c199 c200 c201 c202 c203 c204 c205 c206 c207 c208 c209 c210 c211 c212 c213 c214 c215 c216 c217 c218 c219 c220 c221 c222 c223 c224 c225 c226 c227 c228 c229 c230 c231 : Value) {w : World} {g gw n cap at_ : Nat} {blk : List UInt8} {W : List Int} (hw : Blk w gw (wcells []) 101) (hsc : Sched blk W) (hfit : HFits at_ n) (hcb : ∀ q, q < 64 → ∀ w', Only (fun k => k = gw) w w' → w'.cell? ⟨g, at_ + q, none⟩ = some (.int .u8 ((blk.getD q 0).toNat : Int))) (Q0 : Exit → Act → World → Prop)
    (hexit : ∀ (u9 u10 u11 u12 u46 u47 u48 u49 u50 u51 u52 u53 u54 u55 u56 u57 u58 u59 u60 u61 u62 u63 u64 u65 u66 u67 u68 u69 u70 u71 u72 u73 u74 u75 u76 u77 u78 u79 u80 u81 u82 u83 u84 u85 u86 u87 u88 u89 u90 u91 u92 u93 u94 u95 u96 u97 u98 u99 u100 u101 u102 u103 u104 u105 u106 u107 u108 u109 : Value) w', Blk w' gw (wcells W) 101 → Only (fun k => k = gw) w w' → Q0 (.exit 4) ⟨List.toArray (c0 :: c1 :: c2 :: c3 :: .slice (some ⟨g, 0, none⟩) n cap :: c5 :: c6 :: .int .i64 (at_ : Int) :: .pointer (some ⟨gw, 0, none⟩) :: u9 :: u10 :: u11 :: u12 :: c13 :: c14 :: c15 :: c16 :: c17 :: c18 :: c19 :: c20 :: c21 :: c22 :: c23 :: c24 :: c25 :: c26 :: c27 :: c28 :: c29 :: c30 :: c31 :: c32 :: c33 :: c34 :: c35 :: c36 :: c37 :: c38 :: c39 :: c40 :: c41 :: c42 :: c43 :: c44 :: c45 :: u46 :: u47 :: u48 :: u49 :: u50 :: u51 :: u52 :: u53 :: u54 :: u55 :: u56 :: u57 :: u58 :: u59 :: u60 :: u61 :: u62 :: u63 :: u64 :: u65 :: u66 :: u67 :: u68 :: u69 :: u70 :: u71 :: u72 :: u73 :: u74 :: u75 :: u76 :: u77 :: u78 :: u79 :: u80 :: u81 :: u82 :: u83 :: u84 :: u85 :: u86 :: u87 :: u88 :: u89 :: u90 :: u91 :: u92 :: u93 :: u94 :: u95 :: u96 :: u97 :: u98 :: u99 :: u100 :: u101 :: u102 :: u103 :: u104 :: u105 :: u106 :: u107 :: u108 :: u109 :: c110 :: c111 :: c112 :: c113 :: c114 :: c115 :: c116 :: c117 :: c118 :: c119 :: c120 :: c121 :: c122 :: c123 :: c124 :: c125 :: c126 :: c127 :: c128 :: c129 :: c130 :: c131 :: c132 :: c133 :: c134 :: c135 :: c136 :: c137 :: c138 :: c139 :: c140 :: c141 :: c142 :: c143 :: c144 :: c145 :: c146 :: c147 :: c148 :: c149 :: c150 :: c151 :: c152 :: c153 :: c154 :: c155 :: c156 :: c157 :: c158 :: c159 :: c160 :: c161 :: c162 :: c163 :: c164 :: c165 :: c166 :: c167 :: c168 :: c169 :: c170 :: c171 :: c172 :: c173 :: c174 :: c175 :: c176 :: c177 :: c178 :: c179 :: c180 :: c181 :: c182 :: c183 :: c184 :: c185 :: c186 :: c187 :: c188 :: c189 :: c190 :: c191 :: c192 :: c193 :: c194 :: c195 :: c196 :: c197 :: c198 :: c199 :: c200 :: c201 :: c202 :: c203 :: c204 :: c205 :: c206 :: c207 :: c208 :: c209 :: c210 :: c211 :: c212 :: c213 :: c214 :: c215 :: c216 :: c217 :: c218 :: c219 :: c220 :: c221 :: c222 :: c223 :: c224 :: c225 :: c226 :: c227 :: c228 :: c229 :: c230 :: c231 :: []), []⟩ w') :
    Code.wp Tryd.prog (Code.loop (rloop 2)) Q0 ⟨List.toArray (c0 :: c1 :: c2 :: c3 :: .slice (some ⟨g, 0, none⟩) n cap :: c5 :: c6 :: .int .i64 (at_ : Int) :: .pointer (some ⟨gw, 0, none⟩) :: .int .i64 0 :: c10 :: c11 :: c12 :: c13 :: c14 :: c15 :: c16 :: c17 :: c18 :: c19 :: c20 :: c21 :: c22 :: c23 :: c24 :: c25 :: c26 :: c27 :: c28 :: c29 :: c30 :: c31 :: c32 :: c33 :: c34 :: c35 :: c36 :: c37 :: c38 :: c39 :: c40 :: c41 :: c42 :: c43 :: c44 :: c45 :: c46 :: c47 :: c48 :: c49 :: c50 :: c51 :: c52 :: c53 :: c54 :: c55 :: c56 :: c57 :: c58 :: c59 :: c60 :: c61 :: c62 :: c63 :: c64 :: c65 :: c66 :: c67 :: c68 :: c69 :: c70 :: c71 :: c72 :: c73 :: c74 :: c75 :: c76 :: c77 :: c78 :: c79 :: c80 :: c81 :: c82 :: c83 :: c84 :: c85 :: c86 :: c87 :: c88 :: c89 :: c90 :: c91 :: c92 :: c93 :: c94 :: c95 :: c96 :: c97 :: c98 :: c99 :: c100 :: c101 :: c102 :: c103 :: c104 :: c105 :: c106 :: c107 :: c108 :: c109 :: c110 :: c111 :: c112 :: c113 :: c114 :: c115 :: c116 :: c117 :: c118 :: c119 :: c120 :: c121 :: c122 :: c123 :: c124 :: c125 :: c126 :: c127 :: c128 :: c129 :: c130 :: c131 :: c132 :: c133 :: c134 :: c135 :: c136 :: c137 :: c138 :: c139 :: c140 :: c141 :: c142 :: c143 :: c144 :: c145 :: c146 :: c147 :: c148 :: c149 :: c150 :: c151 :: c152 :: c153 :: c154 :: c155 :: c156 :: c157 :: c158 :: c159 :: c160 :: c161 :: c162 :: c163 :: c164 :: c165 :: c166 :: c167 :: c168 :: c169 :: c170 :: c171 :: c172 :: c173 :: c174 :: c175 :: c176 :: c177 :: c178 :: c179 :: c180 :: c181 :: c182 :: c183 :: c184 :: c185 :: c186 :: c187 :: c188 :: c189 :: c190 :: c191 :: c192 :: c193 :: c194 :: c195 :: c196 :: c197 :: c198 :: c199 :: c200 :: c201 :: c202 :: c203 :: c204 :: c205 :: c206 :: c207 :: c208 :: c209 :: c210 :: c211 :: c212 :: c213 :: c214 :: c215 :: c216 :: c217 :: c218 :: c219 :: c220 :: c221 :: c222 :: c223 :: c224 :: c225 :: c226 :: c227 :: c228 :: c229 :: c230 :: c231 :: []), []⟩ w := by
  conv => arg 2; arg 1; whnf
  have HW := Lib.hid hw; have HX := Lib.hid hexit; have HCB := Lib.hid hcb;
  clear hw hexit hcb
  go_loopw [9] (fun tv wr => ∃ t : Nat, t ≤ 64 ∧ tv = .int .i64 t ∧ Blk wr gw (wcells (W.take t)) 101 ∧ Only (fun k => k = gw) w wr) (fun tv _ => 64 - (intOf tv).toNat)
  case atStart => exact ⟨0, Nat.zero_le _, rfl, HW.out, Only.refl _ _⟩
  case round =>
    obtain ⟨t, ht, rfl, hw, ho⟩ := hrel
    have hlen := hsc.len t ht
    by_cases ht64 : t < 64
    · by_cases ht16 : t < 16
      · obtain ⟨b, hb⟩ : ∃ b : Nat → UInt8, (fun q => blk.getD (4 * t + q) 0) = b := ⟨_, rfl⟩
        have hsu := hsc.low t ht16
        rw [hb] at hsu
        have HSU := Lib.hid hsu
        have hlw : (wcells (W.take t)).length = 64 := wcells_length _ (by omega)
        have hw4 : Blk wr gw ((wcells (W.take t)).set t (wordV ((partN b 0 : Nat) : Int))) 101 := by
          rw [wcells_again (by omega) ht64 (by omega)]; exact hw
        have hcb4 : ∀ q, q < 4 → ∀ w', Only (fun k => k = gw) wr w' → w'.cell? ⟨g, at_ + (4 * t + q), none⟩ = some (.int .u8 ((b q).toNat : Int)) := fun q hq w' ho' => by
          rw [← hb]; exact HCB.out (4 * t + q) (by omega) w' (ho.trans ho')
        have HW4 := Lib.hid hw4; have HLW := Lib.hid hlw; have HCB4 := Lib.hid hcb4; have HO := Lib.hid ho; have HLEN := Lib.hid hlen
        clear hw ho hb hlen hw4 hlw hcb4 hsu
        go_wp2
        refine ref_word _ _ _ _ _ _ _ _ _ _ _ _ _ _ _ _ _ _ _ _ _ _ _ _ _ _ _ _ _ _ _ _ _ _ _ _ _ _ _ _ _ _ _ _ _ _ _ _ _ _ _ _ _ _ _ _ _ _ _ _ _ _ _ _ _ _ _ _ _ _ _ _ _ _ _ _ _ _ _ _ _ _ _ _ _ _ _ _ _ _ _ _ _ _ _ _ _ _ _ _ _ _ _ _ _ _ _ _ _ _ _ _ _ _ _ _ _ _ _ _ _ _ _ _ _ _ _ _ _ _ _ _ _ _ _ _ _ _ _ _ _ _ _ _ _ _ _ _ _ _ _ _ _ _ _ _ _ _ _ _ _ _ _ _ _ _ _ _ _ _ _ _ _ _ _ _ _ _ _ _ _ _ _ _ _ _ _ _ _ _ _ _ _ _ _ _ _ _ _ _ _ _ _ _ _ _ _ _ _ _ _ _ _ _ _ _ _ _ _ _ _ _ _ _ _ _ _  (w := wr) (b := b) (ws := wcells (W.take t))  HW4.out HLW.out ht16 hfit.hat hfit.hn HCB4.out _ ?_
        intro u10 u52 u53 u54 u55 u56 u57 u58 u59 u60 u61 u62 u63 u64 u65 u66 u67 u68 u69 u70 u71 u72 w' hb' ho'
        have hnx : Blk w' gw (wcells (W.take (t + 1))) 101 := by
          have e := wcells_set (W.take t) ((partN b 4 : Nat) : Int) (by rw [HLEN.out]; omega)
          rw [HLEN.out] at e
          rw [HSU.out, ← e]
          exact hb'
        have HNX := Lib.hid hnx; have HON := Lib.hid (HO.out.trans ho')
        clear hb' ho' hnx
        go_wp2
        exact ⟨⟨t + 1, by omega, by go_num, HNX.out, HON.out⟩, by simp [intOf]; omega⟩
      · have HSU := Lib.hid (hsc.high t (by omega) ht64)
        obtain ⟨ws, hws⟩ : ∃ ws, W.take t = ws := ⟨_, rfl⟩
        rw [hws] at hw hlen HSU
        have c15 : wr.cell? ⟨gw, t - 15, none⟩ = some (.int .u32 (ws.getD (t - 15) 0)) := by rw [hw.cell]; exact wcells_get (by omega)
        have c2 : wr.cell? ⟨gw, t - 2, none⟩ = some (.int .u32 (ws.getD (t - 2) 0)) := by rw [hw.cell]; exact wcells_get (by omega)
        have c7 : wr.cell? ⟨gw, t - 7, none⟩ = some (.int .u32 (ws.getD (t - 7) 0)) := by rw [hw.cell]; exact wcells_get (by omega)
        have c16 : wr.cell? ⟨gw, t - 16, none⟩ = some (.int .u32 (ws.getD (t - 16) 0)) := by rw [hw.cell]; exact wcells_get (by omega)
        have hf := hw.frozen t
        have hz : wr.cell? ⟨gw, t, none⟩ = some (.int .u32 0) := by
          rw [hw.cell]; exact wcells_zero (by omega) ht64
        have hnx : Blk (wr.drew.setCell ⟨gw, t, none⟩ (.int .u32 (Sh.next ws))) gw (wcells (W.take (t + 1))) 101 := by
          have := hw.drew.set t (wordV (Sh.next ws))
          have e := wcells_set ws (Sh.next ws) (by omega)
          rw [hlen] at e
          rw [e, ← HSU.out] at this
          exact this
        have HNX := Lib.hid hnx
        have HON : Hid (∀ v, Only (fun k => k = gw) w (wr.drew.setCell ⟨gw, t, none⟩ v)) := fun v =>
          (ho.trans (Only.drew.mono (fun _ _ x => x.elim))).trans (Only.setCell ⟨gw, t, none⟩ _)
        have HEQ : Hid (Sh.next ws = Sh.low (Sh.sg1 (ws.getD (t - 2) 0) + ws.getD (t - 7) 0 + Sh.sg0 (ws.getD (t - 15) 0) + ws.getD (t - 16) 0)) := by
          rw [← hlen]; exact rfl
        have k15 : IntKind.i64.wrap ((t : Int) - 15) = (t : Int) - 15 := IntWalk.i64_in _ (by omega)
        have k2 : IntKind.i64.wrap ((t : Int) - 2) = (t : Int) - 2 := IntWalk.i64_in _ (by omega)
        have k7 : IntKind.i64.wrap ((t : Int) - 7) = (t : Int) - 7 := IntWalk.i64_in _ (by omega)
        have k16 : IntKind.i64.wrap ((t : Int) - 16) = (t : Int) - 16 := IntWalk.i64_in _ (by omega)
        have n15 : ((t : Int) - 15).toNat = t - 15 := by omega
        have n2 : ((t : Int) - 2).toNat = t - 2 := by omega
        have n7 : ((t : Int) - 7).toNat = t - 7 := by omega
        have n16 : ((t : Int) - 16).toNat = t - 16 := by omega
        have p15 : 0 ≤ (t : Int) - 15 := by omega
        have p2 : 0 ≤ (t : Int) - 2 := by omega
        have p7 : 0 ≤ (t : Int) - 7 := by omega
        have r7 : 7 ≤ (t : Int) := by omega
        have r16 : 16 ≤ (t : Int) := by omega
        have p16 : 0 ≤ (t : Int) - 16 := by omega
        have m15 : (t : Int) - 15 < 64 := by omega
        have m2 : (t : Int) - 2 < 64 := by omega
        have m7 : (t : Int) - 7 < 64 := by omega
        have m16 : (t : Int) - 16 < 64 := by omega
        have pz : 0 ≤ (t : Int) := by omega
        have mz : (t : Int) < 64 := by omega
        clear hw ho hlen hnx hws HSU
        generalize Sh.next ws = nx at *
        generalize (ws.getD (t - 15) 0) = x15 at *
        generalize (ws.getD (t - 2) 0) = x2 at *
        generalize (ws.getD (t - 7) 0) = x7 at *
        generalize (ws.getD (t - 16) 0) = x16 at *
        go_wp2
        refine wp_region_still_tail 29 (by kernel_rfl) (by kernel_rfl) ?_
        simp only [List.take_succ_cons, List.take_zero, List.drop_succ_cons, List.drop_zero]
        repeat (first | still_step | still_call (turn_same _ _ (by decide) _))
        refine wpStill_nil ?_
        change wpList _ _ _ _ _ wr.drew
        have hf' : wr.drew.frozen? ⟨gw, t, none⟩ = false := hf
        have hz' : wr.drew.cell? ⟨gw, t, none⟩ = some (.int .u32 0) := hz
        clear c15 c2 c7 c16 hf hz
        generalize wr.drew = w8 at *
        go_wp2
        refine ⟨⟨t + 1, by omega, by go_num, ?_, HON.out _⟩, by simp [intOf]; omega⟩
        have h := HNX.out
        rw [HEQ.out] at h
        exact h
    · obtain rfl : t = 64 := by omega
      rw [hsc.all] at hw
      have HNX := Lib.hid hw; have HON := Lib.hid ho
      clear hw ho hlen
      go_wp2
      exact HX.out _ _ _ _ _ _ _ _ _ _ _ _ _ _ _ _ _ _ _ _ _ _ _ _ _ _ _ _ _ _ _ _ _ _ _ _ _ _ _ _ _ _ _ _ _ _ _ _ _ _ _ _ _ _ _ _ _ _ _ _ _ _ _ _ _ _ _ _ wr HNX.out HON.out

end Go.Proofs.YtgdnmbchhfbjoaaDoor

namespace Go.Proofs.YtgdnmbchhfbjoaaDoor
open Go.RowKit

/-- The state while its words move up by one: down to place j they have moved. -/
def shifted (s : Sh.V8) (j : Nat) : List Int := s.list.take (j + 1) ++ (s.list.drop j).take (7 - j)
theorem shifted_set (s : Sh.V8) : ∀ j, j < 7 → (shifted s (j + 1)).set (j + 1) (s.list.getD j 0) = shifted s j
  | 0, _ => rfl
  | 1, _ => rfl
  | 2, _ => rfl
  | 3, _ => rfl
  | 4, _ => rfl
  | 5, _ => rfl
  | 6, _ => rfl
  | n + 7, h => by omega
theorem shifted_get (s : Sh.V8) : ∀ j, j < 7 → (shifted s (j + 1))[j]? = some (s.list.getD j 0)
  | 0, _ => rfl
  | 1, _ => rfl
  | 2, _ => rfl
  | 3, _ => rfl
  | 4, _ => rfl
  | 5, _ => rfl
  | 6, _ => rfl
  | n + 7, h => by omega
theorem shifted_top (s : Sh.V8) : shifted s 7 = s.list := rfl
theorem shifted_end (s : Sh.V8) : shifted s 0 = [s.a, s.a, s.b, s.c, s.d, s.e, s.f, s.g] := rfl

set_option maxRecDepth 1000000 in
set_option maxHeartbeats 4000000 in
theorem ref_shift (c0 c1 c2 c3 c4 c5 c6 c7 c8 c9 c10 c11 c12 c14 c15 c16 c17 c18 c20 c21 c22 c23 c24 c25 c26 c27 c28 c29 c30 c31 c32 c33 c34 c35 c36 c37 c38 c39 c40 c41 c42 c43 c44 c45 c46 c47 c48 c49 c50 c51 c52 c53 c54 c55 c56 c57 c58 c59 c60 c61 c62 c63 c64 c65 c66 c67 c68 c69 c70 c71 c72 c73 c74 c75 c76 c77 c78 c79 c80 c81 c82 c83 c84 c85 c86 c87 c88 c89 c90 c91 c92 c93 c94 c95 c96 c97 c98 c99 c100 c101 c102 c103 c104 c105 c106 c107 c108 c109 c110 c111 c112 c113 c114 c115 c116 c117 c118 c119 c120 c121 c122 c123 c124 c125 c126 c127 c128 c129 c130 c131 c132 c133 c134 c135 c136 c137 c138 c139 c140 c141 c142 c143 c144 c145 c146 c147 c148 c149 c150 c151 c152 c153 c154 c155 c156 c157 c158 c159 c160 c161 c162 c163 c164 c165 c166 c167 c168 c169 c170 c171 c172 c173 c174 c175 c176 c177 c178 c179 c180 c181 c182 c183 c184 c185 c186 c187 c188 c189 c190 c191 c192 c193 c194 c195 c196 c197 c198 c199 c200 c201 c202 c203 c204 c205 c206 c207 c208 c209 c210 c211 c212 c213 c214 c215 c216 c217 c218 c219 c220 c221 c222 c223 c224 c225 c226 c227 c228 c229 c230 c231 : Value) {w : World} {gv : Nat} {s : Sh.V8} (hv : Blk w gv (hscells s) 102) (Q0 : Exit → Act → World → Prop)
    (hexit : ∀ (u19 u181 u182 u183 u184 u185 u186 u187 u188 u189 u190 : Value) w', Blk w' gv ([s.a, s.a, s.b, s.c, s.d, s.e, s.f, s.g].map wordV) 102 → Only (fun k => k = gv) w w' → Q0 (.exit 10) ⟨List.toArray (c0 :: c1 :: c2 :: c3 :: c4 :: c5 :: c6 :: c7 :: c8 :: c9 :: c10 :: c11 :: c12 :: .pointer (some ⟨gv, 0, none⟩) :: c14 :: c15 :: c16 :: c17 :: c18 :: u19 :: c20 :: c21 :: c22 :: c23 :: c24 :: c25 :: c26 :: c27 :: c28 :: c29 :: c30 :: c31 :: c32 :: c33 :: c34 :: c35 :: c36 :: c37 :: c38 :: c39 :: c40 :: c41 :: c42 :: c43 :: c44 :: c45 :: c46 :: c47 :: c48 :: c49 :: c50 :: c51 :: c52 :: c53 :: c54 :: c55 :: c56 :: c57 :: c58 :: c59 :: c60 :: c61 :: c62 :: c63 :: c64 :: c65 :: c66 :: c67 :: c68 :: c69 :: c70 :: c71 :: c72 :: c73 :: c74 :: c75 :: c76 :: c77 :: c78 :: c79 :: c80 :: c81 :: c82 :: c83 :: c84 :: c85 :: c86 :: c87 :: c88 :: c89 :: c90 :: c91 :: c92 :: c93 :: c94 :: c95 :: c96 :: c97 :: c98 :: c99 :: c100 :: c101 :: c102 :: c103 :: c104 :: c105 :: c106 :: c107 :: c108 :: c109 :: c110 :: c111 :: c112 :: c113 :: c114 :: c115 :: c116 :: c117 :: c118 :: c119 :: c120 :: c121 :: c122 :: c123 :: c124 :: c125 :: c126 :: c127 :: c128 :: c129 :: c130 :: c131 :: c132 :: c133 :: c134 :: c135 :: c136 :: c137 :: c138 :: c139 :: c140 :: c141 :: c142 :: c143 :: c144 :: c145 :: c146 :: c147 :: c148 :: c149 :: c150 :: c151 :: c152 :: c153 :: c154 :: c155 :: c156 :: c157 :: c158 :: c159 :: c160 :: c161 :: c162 :: c163 :: c164 :: c165 :: c166 :: c167 :: c168 :: c169 :: c170 :: c171 :: c172 :: c173 :: c174 :: c175 :: c176 :: c177 :: c178 :: c179 :: c180 :: u181 :: u182 :: u183 :: u184 :: u185 :: u186 :: u187 :: u188 :: u189 :: u190 :: c191 :: c192 :: c193 :: c194 :: c195 :: c196 :: c197 :: c198 :: c199 :: c200 :: c201 :: c202 :: c203 :: c204 :: c205 :: c206 :: c207 :: c208 :: c209 :: c210 :: c211 :: c212 :: c213 :: c214 :: c215 :: c216 :: c217 :: c218 :: c219 :: c220 :: c221 :: c222 :: c223 :: c224 :: c225 :: c226 :: c227 :: c228 :: c229 :: c230 :: c231 :: []), []⟩ w') :
    Code.wp Tryd.prog (Code.loop (rloop 5)) Q0 ⟨List.toArray (c0 :: c1 :: c2 :: c3 :: c4 :: c5 :: c6 :: c7 :: c8 :: c9 :: c10 :: c11 :: c12 :: .pointer (some ⟨gv, 0, none⟩) :: c14 :: c15 :: c16 :: c17 :: c18 :: .int .i64 7 :: c20 :: c21 :: c22 :: c23 :: c24 :: c25 :: c26 :: c27 :: c28 :: c29 :: c30 :: c31 :: c32 :: c33 :: c34 :: c35 :: c36 :: c37 :: c38 :: c39 :: c40 :: c41 :: c42 :: c43 :: c44 :: c45 :: c46 :: c47 :: c48 :: c49 :: c50 :: c51 :: c52 :: c53 :: c54 :: c55 :: c56 :: c57 :: c58 :: c59 :: c60 :: c61 :: c62 :: c63 :: c64 :: c65 :: c66 :: c67 :: c68 :: c69 :: c70 :: c71 :: c72 :: c73 :: c74 :: c75 :: c76 :: c77 :: c78 :: c79 :: c80 :: c81 :: c82 :: c83 :: c84 :: c85 :: c86 :: c87 :: c88 :: c89 :: c90 :: c91 :: c92 :: c93 :: c94 :: c95 :: c96 :: c97 :: c98 :: c99 :: c100 :: c101 :: c102 :: c103 :: c104 :: c105 :: c106 :: c107 :: c108 :: c109 :: c110 :: c111 :: c112 :: c113 :: c114 :: c115 :: c116 :: c117 :: c118 :: c119 :: c120 :: c121 :: c122 :: c123 :: c124 :: c125 :: c126 :: c127 :: c128 :: c129 :: c130 :: c131 :: c132 :: c133 :: c134 :: c135 :: c136 :: c137 :: c138 :: c139 :: c140 :: c141 :: c142 :: c143 :: c144 :: c145 :: c146 :: c147 :: c148 :: c149 :: c150 :: c151 :: c152 :: c153 :: c154 :: c155 :: c156 :: c157 :: c158 :: c159 :: c160 :: c161 :: c162 :: c163 :: c164 :: c165 :: c166 :: c167 :: c168 :: c169 :: c170 :: c171 :: c172 :: c173 :: c174 :: c175 :: c176 :: c177 :: c178 :: c179 :: c180 :: c181 :: c182 :: c183 :: c184 :: c185 :: c186 :: c187 :: c188 :: c189 :: c190 :: c191 :: c192 :: c193 :: c194 :: c195 :: c196 :: c197 :: c198 :: c199 :: c200 :: c201 :: c202 :: c203 :: c204 :: c205 :: c206 :: c207 :: c208 :: c209 :: c210 :: c211 :: c212 :: c213 :: c214 :: c215 :: c216 :: c217 :: c218 :: c219 :: c220 :: c221 :: c222 :: c223 :: c224 :: c225 :: c226 :: c227 :: c228 :: c229 :: c230 :: c231 :: []), []⟩ w := by
  conv => arg 2; arg 1; whnf
  have HV := Lib.hid hv; have HX := Lib.hid hexit
  clear hv hexit
  go_loopw [19] (fun iv wr => ∃ j : Nat, j ≤ 7 ∧ iv = .int .i64 j ∧ Blk wr gv ((shifted s j).map wordV) 102 ∧ Only (fun k => k = gv) w wr) (fun iv _ => (intOf iv).toNat)
  case atStart => exact ⟨7, Nat.le_refl _, rfl, HV.out, Only.refl _ _⟩
  case round =>
    obtain ⟨i, hi, rfl, hb, ho⟩ := hrel
    by_cases hlt : 0 < i
    · obtain ⟨j, rfl⟩ : ∃ j, i = j + 1 := ⟨i - 1, by omega⟩
      have ch : wr.cell? ⟨gv, j, none⟩ = some (.int .u32 (s.list.getD j 0)) := by
        rw [hb.cell, List.getElem?_map, shifted_get s j (by omega)]; rfl
      have cf : wr.frozen? ⟨gv, j + 1, none⟩ = false := hb.frozen _
      have hset : Blk (wr.setCell ⟨gv, j + 1, none⟩ (.int .u32 (s.list.getD j 0))) gv ((shifted s j).map wordV) 102 := by
        have := hb.set (j + 1) (wordV (s.list.getD j 0))
        rw [← List.map_set, shifted_set s j (by omega)] at this
        exact this
      have hcx : ∃ y, wr.cell? ⟨gv, j + 1, none⟩ = some (.int .u32 y) := by
        have hl : j + 1 < (shifted s (j + 1)).length := by simp [shifted, Sh.V8.list]; omega
        exact ⟨(shifted s (j + 1))[j + 1], by rw [hb.cell, List.getElem?_map, List.getElem?_eq_getElem hl]; rfl⟩
      obtain ⟨y, cy⟩ := hcx
      have hos : Only (fun k => k = gv) w (wr.setCell ⟨gv, j + 1, none⟩ (.int .u32 (s.list.getD j 0))) := ho.trans (Only.setCell ⟨gv, j + 1, none⟩ _)
      have HSET := Lib.hid hset; have HOS := Lib.hid hos
      have k1 : IntKind.i64.wrap (((j + 1 : Nat) : Int) - 1) = (j : Int) := by rw [IntWalk.i64_in _ (by omega)]; omega
      have k2 : ((j + 1 : Nat) : Int).toNat = j + 1 := by omega
      have pz : 0 < ((j + 1 : Nat) : Int) := by omega
      have mz : ((j + 1 : Nat) : Int) < 8 := by omega
      have pj : 0 ≤ (j : Int) := by omega
      have mj : (j : Int) < 8 := by omega
      clear hset hos hb ho
      generalize s.list.getD j 0 = x at *
      go_wp2
      exact ⟨⟨j, by omega, by go_num, HSET.out, HOS.out⟩, by simp [intOf]⟩
    · obtain rfl : i = 0 := by omega
      rw [shifted_end] at hb
      have HB := Lib.hid hb; have HO := Lib.hid ho
      clear hb ho
      go_wp2
      exact HX.out _ _ _ _ _ _ _ _ _ _ _ wr HB.out HO.out

end Go.Proofs.YtgdnmbchhfbjoaaDoor

namespace Go.Proofs.YtgdnmbchhfbjoaaDoor
open Go.RowKit

/-- The states of a block's rounds, by what each of them is. -/
structure Rounds (K W : List Int) (s : Sh.V8) (z : Nat → Sh.V8) : Prop where
  start : z 0 = s
  next : ∀ t, z (t + 1) = Sh.rnd (K.getD t 0) (W.getD t 0) (z t)
  klen : K.length = 64
  wlen : W.length = 64
theorem rounds_of (blk : List UInt8) (s : Sh.V8) : Rounds Sh.ks (Sh.sched blk) s (Sh.rnds Sh.ks (Sh.sched blk) s) :=
  ⟨rfl, fun _ => rfl, rfl, sched_len blk⟩
theorem rnd_flat (k w a b c d e f g h : Int) : Sh.rnd k w ⟨a, b, c, d, e, f, g, h⟩ = ⟨(h + Sh.bs1 e + Sh.ch e f g + k + w + (Sh.bs0 a + Sh.maj a b c)) % 4294967296, a, b, c, (d + (h + Sh.bs1 e + Sh.ch e f g + k + w)) % 4294967296, e, f, g⟩ := by
  have h1 : Sh.low (Sh.t1 k w ⟨a, b, c, d, e, f, g, h⟩ + Sh.t2 ⟨a, b, c, d, e, f, g, h⟩) = (h + Sh.bs1 e + Sh.ch e f g + k + w + (Sh.bs0 a + Sh.maj a b c)) % 4294967296 := by
    unfold Sh.t1 Sh.t2 Sh.low
    exact (Int.add_emod _ _ _).symm
  have h2 : Sh.low (d + Sh.t1 k w ⟨a, b, c, d, e, f, g, h⟩) = (d + (h + Sh.bs1 e + Sh.ch e f g + k + w)) % 4294967296 := by
    unfold Sh.t1 Sh.low
    exact Int.add_emod_emod _ _ _
  unfold Sh.rnd
  rw [h1, h2]
theorem map_word_get {W : List Int} {t : Nat} (h : t < W.length) : (W.map wordV)[t]? = some (.int .u32 (W.getD t 0)) := by
  simp [h, wordV]

set_option maxRecDepth 1000000 in
set_option maxHeartbeats 4000000 in
theorem ref_rnds (c0 c1 c2 c4 c5 c6 c7 c9 c10 c11 c12 c15 c16 c17 c18 c19 c20 c21 c22 c23 c24 c25 c26 c27 c28 c29 c30 c31 c32 c33 c34 c35 c36 c37 c38 c39 c40 c41 c42 c43 c44 c45 c46 c47 c48 c49 c50 c51 c52 c53 c54 c55 c56 c57 c58 c59 c60 c61 c62 c63 c64 c65 c66 c67 c68 c69 c70 c71 c72 c73 c74 c75 c76 c77 c78 c79 c80 c81 c82 c83 c84 c85 c86 c87 c88 c89 c90 c91 c92 c93 c94 c95 c96 c97 c98 c99 c100 c101 c102 c103 c104 c105 c106 c107 c108 c109 c110 c111 c112 c113 c114 c115 c116 c117 c118 c119 c120 c121 c122 c123 c124 c125 c126 c127 c128 c129 c130 c131 c132 c133 c134 c135 c136 c137 c138 c139 c140 c141 c142 c143 c144 c145 c146 c147 c148 c149 c150 c151 c152 c153 c154 c155 c156 c157 c158 c159 c160 c161 c162 c163 c164 c165 c166 c167 c168 c169 c170 c171 c172 c173 c174 c175 c176 c177 c178 c179 c180 c181 c182 c183 c184 c185 c186 c187 c188 c189 c190 c191 c192 c193 c194 c195 c196 c197 c198 c199 c200 c201 c202 c203 c204 c205 c206 c207 c208 c209 c210 c211 c212 c213 c214 c215 c216 c217 c218 c219 c220 c221 c222 c223 c224 c225 c226 c227 c228 c229 c230 c231 : Value) {w : World} {gk gw gv : Nat} {K W : List Int} {s : Sh.V8} {z : Nat → Sh.V8} (hz : Rounds K W s z) (hk : Blk w gk (K.map wordV) 101) (hw : Blk w gw (W.map wordV) 101) (hv : Blk w gv (hscells s) 102) (hnk : gk ≠ gv) (hnw : gw ≠ gv) (Q0 : Exit → Act → World → Prop)
    (hexit : ∀ (u14 u15 u16 u17 u18 u19 u111 u112 u113 u114 u115 u116 u117 u118 u119 u120 u121 u122 u123 u124 u125 u126 u127 u128 u129 u130 u131 u132 u133 u134 u135 u136 u137 u138 u139 u140 u141 u142 u143 u144 u145 u146 u147 u148 u149 u150 u151 u152 u153 u154 u155 u156 u157 u158 u159 u160 u161 u162 u163 u164 u165 u166 u167 u168 u169 u170 u171 u172 u173 u174 u175 u176 u177 u178 u179 u180 u181 u182 u183 u184 u185 u186 u187 u188 u189 u190 u191 u192 u193 u194 u195 u196 u197 u198 u199 : Value) w', Blk w' gv (hscells (z 64)) 102 → Only (fun k => k = gv) w w' → Q0 (.exit 8) ⟨List.toArray (c0 :: c1 :: c2 :: .pointer (some ⟨gk, 0, none⟩) :: c4 :: c5 :: c6 :: c7 :: .pointer (some ⟨gw, 0, none⟩) :: c9 :: c10 :: c11 :: c12 :: .pointer (some ⟨gv, 0, none⟩) :: u14 :: u15 :: u16 :: u17 :: u18 :: u19 :: c20 :: c21 :: c22 :: c23 :: c24 :: c25 :: c26 :: c27 :: c28 :: c29 :: c30 :: c31 :: c32 :: c33 :: c34 :: c35 :: c36 :: c37 :: c38 :: c39 :: c40 :: c41 :: c42 :: c43 :: c44 :: c45 :: c46 :: c47 :: c48 :: c49 :: c50 :: c51 :: c52 :: c53 :: c54 :: c55 :: c56 :: c57 :: c58 :: c59 :: c60 :: c61 :: c62 :: c63 :: c64 :: c65 :: c66 :: c67 :: c68 :: c69 :: c70 :: c71 :: c72 :: c73 :: c74 :: c75 :: c76 :: c77 :: c78 :: c79 :: c80 :: c81 :: c82 :: c83 :: c84 :: c85 :: c86 :: c87 :: c88 :: c89 :: c90 :: c91 :: c92 :: c93 :: c94 :: c95 :: c96 :: c97 :: c98 :: c99 :: c100 :: c101 :: c102 :: c103 :: c104 :: c105 :: c106 :: c107 :: c108 :: c109 :: c110 :: u111 :: u112 :: u113 :: u114 :: u115 :: u116 :: u117 :: u118 :: u119 :: u120 :: u121 :: u122 :: u123 :: u124 :: u125 :: u126 :: u127 :: u128 :: u129 :: u130 :: u131 :: u132 :: u133 :: u134 :: u135 :: u136 :: u137 :: u138 :: u139 :: u140 :: u141 :: u142 :: u143 :: u144 :: u145 :: u146 :: u147 :: u148 :: u149 :: u150 :: u151 :: u152 :: u153 :: u154 :: u155 :: u156 :: u157 :: u158 :: u159 :: u160 :: u161 :: u162 :: u163 :: u164 :: u165 :: u166 :: u167 :: u168 :: u169 :: u170 :: u171 :: u172 :: u173 :: u174 :: u175 :: u176 :: u177 :: u178 :: u179 :: u180 :: u181 :: u182 :: u183 :: u184 :: u185 :: u186 :: u187 :: u188 :: u189 :: u190 :: u191 :: u192 :: u193 :: u194 :: u195 :: u196 :: u197 :: u198 :: u199 :: c200 :: c201 :: c202 :: c203 :: c204 :: c205 :: c206 :: c207 :: c208 :: c209 :: c210 :: c211 :: c212 :: c213 :: c214 :: c215 :: c216 :: c217 :: c218 :: c219 :: c220 :: c221 :: c222 :: c223 :: c224 :: c225 :: c226 :: c227 :: c228 :: c229 :: c230 :: c231 :: []), []⟩ w') :
    Code.wp Tryd.prog (Code.loop (rloop 4)) Q0 ⟨List.toArray (c0 :: c1 :: c2 :: .pointer (some ⟨gk, 0, none⟩) :: c4 :: c5 :: c6 :: c7 :: .pointer (some ⟨gw, 0, none⟩) :: c9 :: c10 :: c11 :: c12 :: .pointer (some ⟨gv, 0, none⟩) :: .int .i64 0 :: c15 :: c16 :: c17 :: c18 :: c19 :: c20 :: c21 :: c22 :: c23 :: c24 :: c25 :: c26 :: c27 :: c28 :: c29 :: c30 :: c31 :: c32 :: c33 :: c34 :: c35 :: c36 :: c37 :: c38 :: c39 :: c40 :: c41 :: c42 :: c43 :: c44 :: c45 :: c46 :: c47 :: c48 :: c49 :: c50 :: c51 :: c52 :: c53 :: c54 :: c55 :: c56 :: c57 :: c58 :: c59 :: c60 :: c61 :: c62 :: c63 :: c64 :: c65 :: c66 :: c67 :: c68 :: c69 :: c70 :: c71 :: c72 :: c73 :: c74 :: c75 :: c76 :: c77 :: c78 :: c79 :: c80 :: c81 :: c82 :: c83 :: c84 :: c85 :: c86 :: c87 :: c88 :: c89 :: c90 :: c91 :: c92 :: c93 :: c94 :: c95 :: c96 :: c97 :: c98 :: c99 :: c100 :: c101 :: c102 :: c103 :: c104 :: c105 :: c106 :: c107 :: c108 :: c109 :: c110 :: c111 :: c112 :: c113 :: c114 :: c115 :: c116 :: c117 :: c118 :: c119 :: c120 :: c121 :: c122 :: c123 :: c124 :: c125 :: c126 :: c127 :: c128 :: c129 :: c130 :: c131 :: c132 :: c133 :: c134 :: c135 :: c136 :: c137 :: c138 :: c139 :: c140 :: c141 :: c142 :: c143 :: c144 :: c145 :: c146 :: c147 :: c148 :: c149 :: c150 :: c151 :: c152 :: c153 :: c154 :: c155 :: c156 :: c157 :: c158 :: c159 :: c160 :: c161 :: c162 :: c163 :: c164 :: c165 :: c166 :: c167 :: c168 :: c169 :: c170 :: c171 :: c172 :: c173 :: c174 :: c175 :: c176 :: c177 :: c178 :: c179 :: c180 :: c181 :: c182 :: c183 :: c184 :: c185 :: c186 :: c187 :: c188 :: c189 :: c190 :: c191 :: c192 :: c193 :: c194 :: c195 :: c196 :: c197 :: c198 :: c199 :: c200 :: c201 :: c202 :: c203 :: c204 :: c205 :: c206 :: c207 :: c208 :: c209 :: c210 :: c211 :: c212 :: c213 :: c214 :: c215 :: c216 :: c217 :: c218 :: c219 :: c220 :: c221 :: c222 :: c223 :: c224 :: c225 :: c226 :: c227 :: c228 :: c229 :: c230 :: c231 :: []), []⟩ w := by
  conv => arg 2; arg 1; whnf
  have HV := Lib.hid hv; have HX := Lib.hid hexit; have HK := Lib.hid hk; have HW := Lib.hid hw
  clear hv hexit hk hw
  go_loopw [14] (fun tv wr => ∃ t : Nat, t ≤ 64 ∧ tv = .int .i64 t ∧ Blk wr gv (hscells (z t)) 102 ∧ Only (fun k => k = gv) w wr) (fun tv _ => 64 - (intOf tv).toNat)
  case atStart => exact ⟨0, Nat.zero_le _, rfl, by rw [hz.start]; exact HV.out, Only.refl _ _⟩
  case round =>
    obtain ⟨t, ht, rfl, hv, ho⟩ := hrel
    by_cases ht64 : t < 64
    · have hnx := hz.next t
      have ck : wr.cell? ⟨gk, t, none⟩ = some (.int .u32 (K.getD t 0)) := by
        rw [(HK.out.keep ho hnk).cell]; exact map_word_get (by rw [hz.klen]; exact ht64)
      have cw : wr.cell? ⟨gw, t, none⟩ = some (.int .u32 (W.getD t 0)) := by
        rw [(HW.out.keep ho hnw).cell]; exact map_word_get (by rw [hz.wlen]; exact ht64)
      obtain ⟨zt, hzt⟩ : ∃ zt, z t = zt := ⟨_, rfl⟩
      rw [hzt] at hv hnx
      have HNX := Lib.hid hnx
      clear hnx hzt
      generalize K.getD t 0 = kt at *
      generalize W.getD t 0 = wt at *
      obtain ⟨xa, xb, xc, xd, xe, xf, xg, xh⟩ := zt
      have v0 : wr.cell? ⟨gv, 0, none⟩ = some (.int .u32 xa) := by rw [hv.cell]; rfl
      have v1 : wr.cell? ⟨gv, 1, none⟩ = some (.int .u32 xb) := by rw [hv.cell]; rfl
      have v2 : wr.cell? ⟨gv, 2, none⟩ = some (.int .u32 xc) := by rw [hv.cell]; rfl
      have v4 : wr.cell? ⟨gv, 4, none⟩ = some (.int .u32 xe) := by rw [hv.cell]; rfl
      have v5 : wr.cell? ⟨gv, 5, none⟩ = some (.int .u32 xf) := by rw [hv.cell]; rfl
      have v6 : wr.cell? ⟨gv, 6, none⟩ = some (.int .u32 xg) := by rw [hv.cell]; rfl
      have v7 : wr.cell? ⟨gv, 7, none⟩ = some (.int .u32 xh) := by rw [hv.cell]; rfl
      have HV1 := Lib.hid hv; have HO := Lib.hid ho
      have pz : 0 ≤ (t : Int) := by omega
      have mz : (t : Int) < 64 := by omega
      clear hv ho
      go_wp2
      refine wp_region_still_lit (by kernel_rfl) (by kernel_rfl) ?_
      repeat (first | still_step | still_call (turn_same _ _ (by decide) _))
      refine wpStill_nil ?_
      change Exit.then _ _ _ _ wr.drew
      have d0 : wr.drew.cell? ⟨gv, 0, none⟩ = some (.int .u32 xa) := v0
      clear v0 v1 v2 v4 v5 v6 v7 ck cw
      have HV2 : Hid (Blk wr.drew gv (hscells ⟨xa, xb, xc, xd, xe, xf, xg, xh⟩) 102) := Lib.hid HV1.out.drew
      have HO2 : Hid (Only (fun k => k = gv) w wr.drew) := Lib.hid (HO.out.trans (Only.drew.mono (fun _ _ x => x.elim)))
      clear HV1 HO
      generalize wr.drew = w1 at *
      go_wp2
      refine wp_region_still_lit (by kernel_rfl) (by kernel_rfl) ?_
      repeat (first | still_step | still_call (turn_same _ _ (by decide) _))
      refine wpStill_nil ?_
      change Exit.then _ _ _ _ w1.drew
      have HV3 : Hid (Blk w1.drew gv (hscells ⟨xa, xb, xc, xd, xe, xf, xg, xh⟩) 102) := Lib.hid HV2.out.drew
      have HO3 : Hid (Only (fun k => k = gv) w w1.drew) := Lib.hid (HO2.out.trans (Only.drew.mono (fun _ _ x => x.elim)))
      clear HV2 HO2 d0
      obtain ⟨w2, hw2⟩ : ∃ w2, w1.drew = w2 := ⟨_, rfl⟩
      rw [hw2] at HV3 HO3 ⊢
      clear hw2
      have HV2 := HV3
      clear HV3
      go_wp2
      refine ref_shift _ _ _ _ _ _ _ _ _ _ _ _ _ _ _ _ _ _ _ _ _ _ _ _ _ _ _ _ _ _ _ _ _ _ _ _ _ _ _ _ _ _ _ _ _ _ _ _ _ _ _ _ _ _ _ _ _ _ _ _ _ _ _ _ _ _ _ _ _ _ _ _ _ _ _ _ _ _ _ _ _ _ _ _ _ _ _ _ _ _ _ _ _ _ _ _ _ _ _ _ _ _ _ _ _ _ _ _ _ _ _ _ _ _ _ _ _ _ _ _ _ _ _ _ _ _ _ _ _ _ _ _ _ _ _ _ _ _ _ _ _ _ _ _ _ _ _ _ _ _ _ _ _ _ _ _ _ _ _ _ _ _ _ _ _ _ _ _ _ _ _ _ _ _ _ _ _ _ _ _ _ _ _ _ _ _ _ _ _ _ _ _ _ _ _ _ _ _ _ _ _ _ _ _ _ _ _ _ _ _ _ _ _ _ _ _ _ _ _ _ _ _ _ _ _ _ _ _ _ _  (w := w2) (s := ⟨xa, xb, xc, xd, xe, xf, xg, xh⟩)  HV2.out _ ?_
      intro u19 u181 u182 u183 u184 u185 u186 u187 u188 u189 u190 w' hb' ho'
      have cd : w'.cell? ⟨gv, 4, none⟩ = some (.int .u32 xd) := by rw [hb'.cell]; rfl
      have ca : w'.cell? ⟨gv, 0, none⟩ = some (.int .u32 xa) := by rw [hb'.cell]; rfl
      have fd : w'.frozen? ⟨gv, 4, none⟩ = false := hb'.frozen _
      have fa : ∀ x, (w'.setCell ⟨gv, 4, none⟩ x).frozen? ⟨gv, 0, none⟩ = false := fun x => (hb'.set 4 x).frozen _
      have HEN : Hid (∀ x y : Int, Blk ((w'.setCell ⟨gv, 4, none⟩ (.int .u32 x)).setCell ⟨gv, 0, none⟩ (.int .u32 y)) gv (hscells ⟨y, xa, xb, xc, x, xe, xf, xg⟩) 102) := Lib.hid fun x y => (hb'.set 4 (wordV x)).set 0 (wordV y)
      have HON : Hid (∀ x y, Only (fun k => k = gv) w ((w'.setCell ⟨gv, 4, none⟩ x).setCell ⟨gv, 0, none⟩ y)) := Lib.hid fun x y =>
        ((HO3.out.trans ho').trans (Only.setCell ⟨gv, 4, none⟩ _)).trans (Only.setCell ⟨gv, 0, none⟩ _)
      clear hb' ho'
      go_wp2
      refine ⟨⟨t + 1, by omega, by go_num, ?_, HON.out _ _⟩, by simp [intOf]; omega⟩
      rw [HNX.out, rnd_flat]
      exact HEN.out _ _
    · obtain rfl : t = 64 := by omega
      have HNX := Lib.hid hv; have HON := Lib.hid ho
      clear hv ho
      go_wp2
      exact HX.out _ _ _ _ _ _ _ _ _ _ _ _ _ _ _ _ _ _ _ _ _ _ _ _ _ _ _ _ _ _ _ _ _ _ _ _ _ _ _ _ _ _ _ _ _ _ _ _ _ _ _ _ _ _ _ _ _ _ _ _ _ _ _ _ _ _ _ _ _ _ _ _ _ _ _ _ _ _ _ _ _ _ _ _ _ _ _ _ _ _ _ _ _ _ _ wr HNX.out HON.out

end Go.Proofs.YtgdnmbchhfbjoaaDoor

namespace Go.Proofs.YtgdnmbchhfbjoaaDoor
open Go.RowKit

set_option maxRecDepth 1000000 in
set_option maxHeartbeats 4000000 in
theorem ref_add (c0 c1 c2 c3 c4 c5 c7 c8 c9 c10 c11 c12 c14 c15 c16 c17 c18 c19 c21 c22 c23 c24 c25 c26 c27 c28 c29 c30 c31 c32 c33 c34 c35 c36 c37 c38 c39 c40 c41 c42 c43 c44 c45 c46 c47 c48 c49 c50 c51 c52 c53 c54 c55 c56 c57 c58 c59 c60 c61 c62 c63 c64 c65 c66 c67 c68 c69 c70 c71 c72 c73 c74 c75 c76 c77 c78 c79 c80 c81 c82 c83 c84 c85 c86 c87 c88 c89 c90 c91 c92 c93 c94 c95 c96 c97 c98 c99 c100 c101 c102 c103 c104 c105 c106 c107 c108 c109 c110 c111 c112 c113 c114 c115 c116 c117 c118 c119 c120 c121 c122 c123 c124 c125 c126 c127 c128 c129 c130 c131 c132 c133 c134 c135 c136 c137 c138 c139 c140 c141 c142 c143 c144 c145 c146 c147 c148 c149 c150 c151 c152 c153 c154 c155 c156 c157 c158 c159 c160 c161 c162 c163 c164 c165 c166 c167 c168 c169 c170 c171 c172 c173 c174 c175 c176 c177 c178 c179 c180 c181 c182 c183 c184 c185 c186 c187 c188 c189 c190 c191 c192 c193 c194 c195 c196 c197 c198 c199 c200 c201 c202 c203 c204 c205 c206 c207 c208 c209 c210 c211 c212 c213 c214 c215 c216 c217 c218 c219 c220 c221 c222 c223 c224 c225 c226 c227 c228 c229 c230 c231 : Value) {w : World} {gh gv : Nat} {s v : Sh.V8} (hh : Blk w gh (hscells s) 102) (hv : Blk w gv (hscells v) 102) (hne : gv ≠ gh) (Q0 : Exit → Act → World → Prop)
    (hexit : ∀ (u20 u200 u201 u202 u203 u204 u205 u206 u207 u208 u209 u210 u211 u212 : Value) w', Blk w' gh (hscells (Sh.add8 s v)) 102 → Only (fun k => k = gh) w w' → Q0 (.exit 12) ⟨List.toArray (c0 :: c1 :: c2 :: c3 :: c4 :: c5 :: .pointer (some ⟨gh, 0, none⟩) :: c7 :: c8 :: c9 :: c10 :: c11 :: c12 :: .pointer (some ⟨gv, 0, none⟩) :: c14 :: c15 :: c16 :: c17 :: c18 :: c19 :: u20 :: c21 :: c22 :: c23 :: c24 :: c25 :: c26 :: c27 :: c28 :: c29 :: c30 :: c31 :: c32 :: c33 :: c34 :: c35 :: c36 :: c37 :: c38 :: c39 :: c40 :: c41 :: c42 :: c43 :: c44 :: c45 :: c46 :: c47 :: c48 :: c49 :: c50 :: c51 :: c52 :: c53 :: c54 :: c55 :: c56 :: c57 :: c58 :: c59 :: c60 :: c61 :: c62 :: c63 :: c64 :: c65 :: c66 :: c67 :: c68 :: c69 :: c70 :: c71 :: c72 :: c73 :: c74 :: c75 :: c76 :: c77 :: c78 :: c79 :: c80 :: c81 :: c82 :: c83 :: c84 :: c85 :: c86 :: c87 :: c88 :: c89 :: c90 :: c91 :: c92 :: c93 :: c94 :: c95 :: c96 :: c97 :: c98 :: c99 :: c100 :: c101 :: c102 :: c103 :: c104 :: c105 :: c106 :: c107 :: c108 :: c109 :: c110 :: c111 :: c112 :: c113 :: c114 :: c115 :: c116 :: c117 :: c118 :: c119 :: c120 :: c121 :: c122 :: c123 :: c124 :: c125 :: c126 :: c127 :: c128 :: c129 :: c130 :: c131 :: c132 :: c133 :: c134 :: c135 :: c136 :: c137 :: c138 :: c139 :: c140 :: c141 :: c142 :: c143 :: c144 :: c145 :: c146 :: c147 :: c148 :: c149 :: c150 :: c151 :: c152 :: c153 :: c154 :: c155 :: c156 :: c157 :: c158 :: c159 :: c160 :: c161 :: c162 :: c163 :: c164 :: c165 :: c166 :: c167 :: c168 :: c169 :: c170 :: c171 :: c172 :: c173 :: c174 :: c175 :: c176 :: c177 :: c178 :: c179 :: c180 :: c181 :: c182 :: c183 :: c184 :: c185 :: c186 :: c187 :: c188 :: c189 :: c190 :: c191 :: c192 :: c193 :: c194 :: c195 :: c196 :: c197 :: c198 :: c199 :: u200 :: u201 :: u202 :: u203 :: u204 :: u205 :: u206 :: u207 :: u208 :: u209 :: u210 :: u211 :: u212 :: c213 :: c214 :: c215 :: c216 :: c217 :: c218 :: c219 :: c220 :: c221 :: c222 :: c223 :: c224 :: c225 :: c226 :: c227 :: c228 :: c229 :: c230 :: c231 :: []), []⟩ w') :
    Code.wp Tryd.prog (Code.loop (rloop 6)) Q0 ⟨List.toArray (c0 :: c1 :: c2 :: c3 :: c4 :: c5 :: .pointer (some ⟨gh, 0, none⟩) :: c7 :: c8 :: c9 :: c10 :: c11 :: c12 :: .pointer (some ⟨gv, 0, none⟩) :: c14 :: c15 :: c16 :: c17 :: c18 :: c19 :: .int .i64 0 :: c21 :: c22 :: c23 :: c24 :: c25 :: c26 :: c27 :: c28 :: c29 :: c30 :: c31 :: c32 :: c33 :: c34 :: c35 :: c36 :: c37 :: c38 :: c39 :: c40 :: c41 :: c42 :: c43 :: c44 :: c45 :: c46 :: c47 :: c48 :: c49 :: c50 :: c51 :: c52 :: c53 :: c54 :: c55 :: c56 :: c57 :: c58 :: c59 :: c60 :: c61 :: c62 :: c63 :: c64 :: c65 :: c66 :: c67 :: c68 :: c69 :: c70 :: c71 :: c72 :: c73 :: c74 :: c75 :: c76 :: c77 :: c78 :: c79 :: c80 :: c81 :: c82 :: c83 :: c84 :: c85 :: c86 :: c87 :: c88 :: c89 :: c90 :: c91 :: c92 :: c93 :: c94 :: c95 :: c96 :: c97 :: c98 :: c99 :: c100 :: c101 :: c102 :: c103 :: c104 :: c105 :: c106 :: c107 :: c108 :: c109 :: c110 :: c111 :: c112 :: c113 :: c114 :: c115 :: c116 :: c117 :: c118 :: c119 :: c120 :: c121 :: c122 :: c123 :: c124 :: c125 :: c126 :: c127 :: c128 :: c129 :: c130 :: c131 :: c132 :: c133 :: c134 :: c135 :: c136 :: c137 :: c138 :: c139 :: c140 :: c141 :: c142 :: c143 :: c144 :: c145 :: c146 :: c147 :: c148 :: c149 :: c150 :: c151 :: c152 :: c153 :: c154 :: c155 :: c156 :: c157 :: c158 :: c159 :: c160 :: c161 :: c162 :: c163 :: c164 :: c165 :: c166 :: c167 :: c168 :: c169 :: c170 :: c171 :: c172 :: c173 :: c174 :: c175 :: c176 :: c177 :: c178 :: c179 :: c180 :: c181 :: c182 :: c183 :: c184 :: c185 :: c186 :: c187 :: c188 :: c189 :: c190 :: c191 :: c192 :: c193 :: c194 :: c195 :: c196 :: c197 :: c198 :: c199 :: c200 :: c201 :: c202 :: c203 :: c204 :: c205 :: c206 :: c207 :: c208 :: c209 :: c210 :: c211 :: c212 :: c213 :: c214 :: c215 :: c216 :: c217 :: c218 :: c219 :: c220 :: c221 :: c222 :: c223 :: c224 :: c225 :: c226 :: c227 :: c228 :: c229 :: c230 :: c231 :: []), []⟩ w := by
  conv => arg 2; arg 1; whnf
  have HH := Lib.hid hh; have HV := Lib.hid hv; have HX := Lib.hid hexit
  clear hh hv hexit
  go_loopw [20] (fun iv wr => ∃ i : Nat, i ≤ 8 ∧ iv = .int .i64 i ∧ Blk wr gh ((part8 s.list v.list i).map wordV) 102 ∧ Only (fun k => k = gh) w wr) (fun iv _ => 8 - (intOf iv).toNat)
  case atStart => exact ⟨0, Nat.zero_le _, rfl, HH.out, Only.refl _ _⟩
  case round =>
    obtain ⟨i, hi, rfl, hb, ho⟩ := hrel
    by_cases hlt : i < 8
    · have hp : (part8 s.list v.list i).length = 8 := part8_len (show s.list.length = v.list.length from rfl) i
      have ch : wr.cell? ⟨gh, i, none⟩ = some (.int .u32 (s.list.getD i 0)) := by
        rw [hb.cell, List.getElem?_map, part8_get (xs := s.list) (ys := v.list) rfl hlt]; rfl
      have cv : wr.cell? ⟨gv, i, none⟩ = some (.int .u32 (v.list.getD i 0)) := by
        rw [(HV.out.keep ho hne).cell]
        have hl : i < v.list.length := hlt
        simp [hscells, hl, wordV]
      have cf : wr.drew.frozen? ⟨gh, i, none⟩ = false := hb.frozen _
      have hset : Blk (wr.drew.setCell ⟨gh, i, none⟩ (.int .u32 (Sh.low (s.list.getD i 0 + v.list.getD i 0)))) gh ((part8 s.list v.list (i + 1)).map wordV) 102 := by
        have := hb.drew.set i (wordV (Sh.low (s.list.getD i 0 + v.list.getD i 0)))
        rw [← List.map_set, part8_set (xs := s.list) (ys := v.list) rfl hlt] at this
        exact this
      have hos : Only (fun k => k = gh) w (wr.drew.setCell ⟨gh, i, none⟩ (.int .u32 (Sh.low (s.list.getD i 0 + v.list.getD i 0)))) :=
        (ho.trans (Only.drew.mono (fun _ _ x => x.elim))).trans (Only.setCell ⟨gh, i, none⟩ _)
      have HSET := Lib.hid hset; have HOS := Lib.hid hos
      have pz : 0 ≤ (i : Int) := by omega
      have mz : (i : Int) < 8 := by omega
      clear hset hos hb ho hp
      unfold Sh.low at HSET HOS
      generalize s.list.getD i 0 = x at *
      generalize v.list.getD i 0 = y at *
      go_wp2
      go_still_tail 9, (by kernel_rfl)
      change wpList _ _ _ _ _ wr.drew
      have ch' : wr.drew.cell? ⟨gh, i, none⟩ = some (.int .u32 x) := ch
      clear ch cv
      generalize wr.drew = w5 at *
      go_wp2
      go_roundw
      case rel => exact ⟨i + 1, by omega, by go_num, HSET.out, HOS.out⟩
      case measure => simp [intOf]; omega
    · obtain rfl : i = 8 := by omega
      rw [part8_all] at hb
      have HB := Lib.hid hb; have HO := Lib.hid ho
      clear hb ho
      go_wp2
      exact HX.out _ _ _ _ _ _ _ _ _ _ _ _ _ _ wr HB.out HO.out

end Go.Proofs.YtgdnmbchhfbjoaaDoor

namespace Go.Proofs.YtgdnmbchhfbjoaaDoor
open Go.RowKit

/-- The states behind each block, by what each of them is; a state is named by how many bytes lie before it. -/
structure Blocks (K : List Int) (m : List UInt8) (y : Nat → Sh.V8) : Prop where
  step : ∀ A, A + 64 ≤ m.length → A % 64 = 0 → ∃ W z, Sched ((m.drop A).take 64) W ∧ Rounds K W (y A) z ∧ y (A + 64) = Sh.add8 (y A) (z 64)
  len : m.length % 64 = 0
  short : m.length ≤ 1099511627776
theorem blocks_of {m : List UInt8} (h1 : m.length % 64 = 0) (h2 : m.length ≤ 1099511627776) : Blocks Sh.ks m (fun A => Sh.after m (A / 64)) :=
  ⟨fun A _ ha => ⟨_, _, sched_of _, rounds_of _ _, by
    show Sh.after m ((A + 64) / 64) = _
    have e : (A + 64) / 64 = A / 64 + 1 := by omega
    have e2 : 64 * (A / 64) = A := by omega
    rw [e]
    show Sh.compress (Sh.after m (A / 64)) ((m.drop (64 * (A / 64))).take 64) = _
    rw [e2]
    rfl⟩, h1, h2⟩

set_option maxRecDepth 1000000 in
set_option maxHeartbeats 4000000 in
theorem ref_blks (c0 c1 c2 c5 c8 c9 c10 c11 c12 c13 c14 c15 c16 c17 c18 c19 c20 c21 c22 c23 c24 c25 c26 c27 c28 c29 c30 c31 c32 c33 c34 c35 c36 c37 c38 c39 c40 c41 c42 c43 c44 c45 c46 c47 c48 c49 c50 c51 c52 c53 c54 c55 c56 c57 c58 c59 c60 c61 c62 c63 c64 c65 c66 c67 c68 c69 c70 c71 c72 c73 c74 c75 c76 c77 c78 c79 c80 c81 c82 c83 c84 c85 c86 c87 c88 c89 c90 c91 c92 c93 c94 c95 c96 c97 c98 c99 c100 c101 c102 c103 c104 c105 c106 c107 c108 c109 c110 c111 c112 c113 c114 c115 c116 c117 c118 c119 c120 c121 c122 c123 c124 c125 c126 c127 c128 c129 c130 c131 c132 c133 c134 c135 c136 c137 c138 c139 c140 c141 c142 c143 c144 c145 c146 c147 c148 c149 c150 c151 c152 c153 c154 c155 c156 c157 c158 c159 c160 c161 c162 c163 c164 c165 c166 c167 c168 c169 c170 c171 c172 c173 c174 c175 c176 c177 c178 c179 c180 c181 c182 c183 c184 c185 c186 c187 c188 c189 c190 c191 c192 c193 c194 c195 c196 c197 c198 c199 c200 c201 c202 c203 c204 c205 c206 c207 c208 c209 c210 c211 c212 c213 c214 c215 c216 c217 c218 c219 c220 c221 c222 c223 c224 c225 c226 c227 c228 c229 c230 c231 : Value) {w : World} {g gk gh cap : Nat} {K : List Int} {m : List UInt8} {y : Nat → Sh.V8} (hy : Blocks K m y) (hk : Blk w gk (K.map wordV) 101) (hh : Blk w gh (hscells (y 0)) 102) (hm : ∀ j, j < m.length → w.cell? ⟨g, j, none⟩ = some (.int .u8 ((m.getD j 0).toNat : Int))) (hgk : gk ≠ gh) (hgg : g ≠ gh) (Q0 : Exit → Act → World → Prop)
    (hexit : ∀ (u7 u8 u9 u10 u11 u12 u13 u14 u15 u16 u17 u18 u19 u20 u39 u40 u41 u42 u43 u44 u45 u46 u47 u48 u49 u50 u51 u52 u53 u54 u55 u56 u57 u58 u59 u60 u61 u62 u63 u64 u65 u66 u67 u68 u69 u70 u71 u72 u73 u74 u75 u76 u77 u78 u79 u80 u81 u82 u83 u84 u85 u86 u87 u88 u89 u90 u91 u92 u93 u94 u95 u96 u97 u98 u99 u100 u101 u102 u103 u104 u105 u106 u107 u108 u109 u110 u111 u112 u113 u114 u115 u116 u117 u118 u119 u120 u121 u122 u123 u124 u125 u126 u127 u128 u129 u130 u131 u132 u133 u134 u135 u136 u137 u138 u139 u140 u141 u142 u143 u144 u145 u146 u147 u148 u149 u150 u151 u152 u153 u154 u155 u156 u157 u158 u159 u160 u161 u162 u163 u164 u165 u166 u167 u168 u169 u170 u171 u172 u173 u174 u175 u176 u177 u178 u179 u180 u181 u182 u183 u184 u185 u186 u187 u188 u189 u190 u191 u192 u193 u194 u195 u196 u197 u198 u199 u200 u201 u202 u203 u204 u205 u206 u207 u208 u209 u210 u211 u212 : Value) w', Blk w' gh (hscells (y m.length)) 102 → Only (fun k => k = gh) w w' → Q0 (.exit 2) ⟨List.toArray (c0 :: c1 :: c2 :: .pointer (some ⟨gk, 0, none⟩) :: .slice (some ⟨g, 0, none⟩) m.length cap :: c5 :: .pointer (some ⟨gh, 0, none⟩) :: u7 :: u8 :: u9 :: u10 :: u11 :: u12 :: u13 :: u14 :: u15 :: u16 :: u17 :: u18 :: u19 :: u20 :: c21 :: c22 :: c23 :: c24 :: c25 :: c26 :: c27 :: c28 :: c29 :: c30 :: c31 :: c32 :: c33 :: c34 :: c35 :: c36 :: c37 :: c38 :: u39 :: u40 :: u41 :: u42 :: u43 :: u44 :: u45 :: u46 :: u47 :: u48 :: u49 :: u50 :: u51 :: u52 :: u53 :: u54 :: u55 :: u56 :: u57 :: u58 :: u59 :: u60 :: u61 :: u62 :: u63 :: u64 :: u65 :: u66 :: u67 :: u68 :: u69 :: u70 :: u71 :: u72 :: u73 :: u74 :: u75 :: u76 :: u77 :: u78 :: u79 :: u80 :: u81 :: u82 :: u83 :: u84 :: u85 :: u86 :: u87 :: u88 :: u89 :: u90 :: u91 :: u92 :: u93 :: u94 :: u95 :: u96 :: u97 :: u98 :: u99 :: u100 :: u101 :: u102 :: u103 :: u104 :: u105 :: u106 :: u107 :: u108 :: u109 :: u110 :: u111 :: u112 :: u113 :: u114 :: u115 :: u116 :: u117 :: u118 :: u119 :: u120 :: u121 :: u122 :: u123 :: u124 :: u125 :: u126 :: u127 :: u128 :: u129 :: u130 :: u131 :: u132 :: u133 :: u134 :: u135 :: u136 :: u137 :: u138 :: u139 :: u140 :: u141 :: u142 :: u143 :: u144 :: u145 :: u146 :: u147 :: u148 :: u149 :: u150 :: u151 :: u152 :: u153 :: u154 :: u155 :: u156 :: u157 :: u158 :: u159 :: u160 :: u161 :: u162 :: u163 :: u164 :: u165 :: u166 :: u167 :: u168 :: u169 :: u170 :: u171 :: u172 :: u173 :: u174 :: u175 :: u176 :: u177 :: u178 :: u179 :: u180 :: u181 :: u182 :: u183 :: u184 :: u185 :: u186 :: u187 :: u188 :: u189 :: u190 :: u191 :: u192 :: u193 :: u194 :: u195 :: u196 :: u197 :: u198 :: u199 :: u200 :: u201 :: u202 :: u203 :: u204 :: u205 :: u206 :: u207 :: u208 :: u209 :: u210 :: u211 :: u212 :: c213 :: c214 :: c215 :: c216 :: c217 :: c218 :: c219 :: c220 :: c221 :: c222 :: c223 :: c224 :: c225 :: c226 :: c227 :: c228 :: c229 :: c230 :: c231 :: []), []⟩ w') :
    Code.wp Tryd.prog (Code.loop (rloop 1)) Q0 ⟨List.toArray (c0 :: c1 :: c2 :: .pointer (some ⟨gk, 0, none⟩) :: .slice (some ⟨g, 0, none⟩) m.length cap :: c5 :: .pointer (some ⟨gh, 0, none⟩) :: .int .i64 0 :: c8 :: c9 :: c10 :: c11 :: c12 :: c13 :: c14 :: c15 :: c16 :: c17 :: c18 :: c19 :: c20 :: c21 :: c22 :: c23 :: c24 :: c25 :: c26 :: c27 :: c28 :: c29 :: c30 :: c31 :: c32 :: c33 :: c34 :: c35 :: c36 :: c37 :: c38 :: c39 :: c40 :: c41 :: c42 :: c43 :: c44 :: c45 :: c46 :: c47 :: c48 :: c49 :: c50 :: c51 :: c52 :: c53 :: c54 :: c55 :: c56 :: c57 :: c58 :: c59 :: c60 :: c61 :: c62 :: c63 :: c64 :: c65 :: c66 :: c67 :: c68 :: c69 :: c70 :: c71 :: c72 :: c73 :: c74 :: c75 :: c76 :: c77 :: c78 :: c79 :: c80 :: c81 :: c82 :: c83 :: c84 :: c85 :: c86 :: c87 :: c88 :: c89 :: c90 :: c91 :: c92 :: c93 :: c94 :: c95 :: c96 :: c97 :: c98 :: c99 :: c100 :: c101 :: c102 :: c103 :: c104 :: c105 :: c106 :: c107 :: c108 :: c109 :: c110 :: c111 :: c112 :: c113 :: c114 :: c115 :: c116 :: c117 :: c118 :: c119 :: c120 :: c121 :: c122 :: c123 :: c124 :: c125 :: c126 :: c127 :: c128 :: c129 :: c130 :: c131 :: c132 :: c133 :: c134 :: c135 :: c136 :: c137 :: c138 :: c139 :: c140 :: c141 :: c142 :: c143 :: c144 :: c145 :: c146 :: c147 :: c148 :: c149 :: c150 :: c151 :: c152 :: c153 :: c154 :: c155 :: c156 :: c157 :: c158 :: c159 :: c160 :: c161 :: c162 :: c163 :: c164 :: c165 :: c166 :: c167 :: c168 :: c169 :: c170 :: c171 :: c172 :: c173 :: c174 :: c175 :: c176 :: c177 :: c178 :: c179 :: c180 :: c181 :: c182 :: c183 :: c184 :: c185 :: c186 :: c187 :: c188 :: c189 :: c190 :: c191 :: c192 :: c193 :: c194 :: c195 :: c196 :: c197 :: c198 :: c199 :: c200 :: c201 :: c202 :: c203 :: c204 :: c205 :: c206 :: c207 :: c208 :: c209 :: c210 :: c211 :: c212 :: c213 :: c214 :: c215 :: c216 :: c217 :: c218 :: c219 :: c220 :: c221 :: c222 :: c223 :: c224 :: c225 :: c226 :: c227 :: c228 :: c229 :: c230 :: c231 :: []), []⟩ w := by
  conv => arg 2; arg 1; whnf
  have HK := Lib.hid hk; have HH := Lib.hid hh; have HM := Lib.hid hm; have HX := Lib.hid hexit; have HGK := Lib.hid hgk; have HGG := Lib.hid hgg
  clear hk hh hm hexit hgk hgg
  go_loopw [7] (fun av wr => ∃ A : Nat, A ≤ m.length ∧ A % 64 = 0 ∧ av = .int .i64 (A : Int) ∧ Blk wr gh (hscells (y A)) 102 ∧ Only (fun k => k = gh) w wr) (fun av _ => m.length + 64 - (intOf av).toNat)
  case atStart => exact ⟨0, Nat.zero_le _, rfl, rfl, HH.out, Only.refl _ _⟩
  case round =>
    obtain ⟨A, hA, hA6, rfl, hh, ho⟩ := hrel
    have hmul := hy.len
    by_cases hlt : A < m.length
    · have hA64 : A + 64 ≤ m.length := by omega
      obtain ⟨W, z, hsc, hrd, hnx⟩ := hy.step A hA64 hA6
      have hfit : HFits A m.length := ⟨hA64, hy.short⟩
      obtain ⟨blk, hblk⟩ : ∃ blk, (m.drop A).take 64 = blk := ⟨_, rfl⟩
      rw [hblk] at hsc
      have kA : IntKind.i64.wrap ((A : Int) + 64) = (A : Int) + 64 := IntWalk.i64_in _ (by have := hy.short; omega)
      have hcell : ∀ q, q < 64 → wr.cell? ⟨g, A + q, none⟩ = some (.int .u8 ((blk.getD q 0).toNat : Int)) := fun q hq => by
        have h1 := HM.out (A + q) (by omega)
        rw [World.cell?_of_block (w := w) (ho.block g (World.block_lt_of_cell? w _ h1) HGG.out), h1, ← hblk]
        simp [hq]
      have hgl : g < wr.heap.size := World.block_lt_of_cell? wr _ (hcell 0 (by decide))
      have hkr := HK.out.keep ho HGK.out
      have HNX := Lib.hid hnx
      have HHR := Lib.hid hh; have HO := Lib.hid ho; have HKR := Lib.hid hkr; have HCELL := Lib.hid hcell; have HGL := Lib.hid hgl
      have HA64 := Lib.hid hA64; have HA6 := Lib.hid hA6
      have htz : (A : Int) < (m.length : Int) := by omega
      clear hh ho hkr hcell hgl hA64 hA6 hnx hblk hmul
      generalize y A = s at *
      go_wp2_with (first
        | (refine wpList_build_as rfl 101 #[] rfl [] (by simp [go_sem]) (wcells []).toArray built_w ?_)
        | (refine wpList_store_row rfl 101 (.tmp 8) (.tmp 45) rfl wr.heap.size (wcells []).toArray rfl rfl 101 (wcells []).toArray (heap_alloc_last _ _) size_64w rfl (oneCell_words (List.replicate 64 0)) ?_; rw [World.setRow_alloc_new]; have HW6 := Lib.hid (Blk.new wr (wcells []) 101); have HO6 : Hid (Only (fun _ => False) wr (wr.alloc (.cells (wcells []).toArray 101))) := Only.alloc _; generalize wr.alloc (.cells (wcells []).toArray 101) = w6 at *))
      have hcb : ∀ q, q < 64 → ∀ w', Only (fun k => k = wr.heap.size) w6 w' → w'.cell? ⟨g, A + q, none⟩ = some (.int .u8 ((blk.getD q 0).toNat : Int)) := fun q hq w' ho' => by
        have hg := HGL.out
        rw [World.cell?_of_block (w := w6) (ho'.block g (Nat.lt_of_lt_of_le hg HO6.out.size) (by omega)), World.cell?_of_block (w := wr) (HO6.out.block g hg (fun x => x))]
        exact HCELL.out q hq
      have HCB := Lib.hid hcb
      clear hcb
      refine ref_sched _ _ _ _ _ _ _ _ _ _ _ _ _ _ _ _ _ _ _ _ _ _ _ _ _ _ _ _ _ _ _ _ _ _ _ _ _ _ _ _ _ _ _ _ _ _ _ _ _ _ _ _ _ _ _ _ _ _ _ _ _ _ _ _ _ _ _ _ _ _ _ _ _ _ _ _ _ _ _ _ _ _ _ _ _ _ _ _ _ _ _ _ _ _ _ _ _ _ _ _ _ _ _ _ _ _ _ _ _ _ _ _ _ _ _ _ _ _ _ _ _ _ _ _ _ _ _ _ _ _ _ _ _ _ _ _ _ _ _ _ _ _ _ _ _ _ _ _ _ _ _ _ _ _ _ _ _ _ _ _ _ _ _ _ _ _ _ _ _ _ _ _ _ _ _ _ _ _ _ _ _ _ _ _ _ _ _ _ _ _ _ _ _ _ _ _ _ _ _ _ _ _ _ _ _ _ _ _ _ _ _ _ _ _ _ _ _ _ _ _ _ _ _ _ _ _ _ _  (w := w6) (blk := blk) (W := W) (gw := wr.heap.size)  HW6.out hsc hfit HCB.out _ ?_
      intro u9 u10 u11 u12 u46 u47 u48 u49 u50 u51 u52 u53 u54 u55 u56 u57 u58 u59 u60 u61 u62 u63 u64 u65 u66 u67 u68 u69 u70 u71 u72 u73 u74 u75 u76 u77 u78 u79 u80 u81 u82 u83 u84 u85 u86 u87 u88 u89 u90 u91 u92 u93 u94 u95 u96 u97 u98 u99 u100 u101 u102 u103 u104 u105 u106 u107 u108 u109 w7 hw7 ho7
      have hl := HHR.out.lt
      have hlk := HKR.out.lt
      have hhn : gh ≠ wr.heap.size := by omega
      have hkn : gk ≠ wr.heap.size := by omega
      have HH7 := Lib.hid ((HHR.out.keep HO6.out (fun x => x)).keep ho7 hhn)
      have HK7 := Lib.hid ((HKR.out.keep HO6.out (fun x => x)).keep ho7 hkn)
      have hw7' : Blk w7 wr.heap.size (W.map wordV) 101 := by rw [← wcells_full hrd.wlen]; exact hw7
      have HW7 := Lib.hid hw7'
      have HO7 : Hid (Only (fun k => k = gh) w w7) := Lib.hid ((HO.out.trans (HO6.out.mono (fun _ _ x => x.elim))).andThen ho7 (fun k hk e => by have := HO.out.size; omega))
      have HHP := Lib.hid HH7.out.heap
      clear hw7 ho7 hl hlk hhn hkn hw7' HCB HCELL HW6 HO6 HKR HHR HO
      go_wp2_with (first
        | (refine wpList_load_row rfl 102 (.tmp 6) rfl gh rfl 102 (hscells s).toArray (0, 0) _ HHP.out Tryd.underlying102 rfl size_8w ?_)
        | (refine wpList_store_row rfl 102 (.tmp 13) (.tmp 110) rfl w7.heap.size (hscells s).toArray rfl rfl 102 (hscells zero8).toArray (heap_alloc_last _ _) size_8w rfl (oneCell_words _) ?_; rw [World.setRow_alloc_new]; have HV8 := Lib.hid (Blk.new w7 (hscells s) 102); have HO8 : Hid (Only (fun _ => False) w7 (w7.alloc (.cells (hscells s).toArray 102))) := Only.alloc _; generalize w7.alloc (.cells (hscells s).toArray 102) = w8 at *))
      have HK8 := Lib.hid (HK7.out.keep HO8.out (fun x => x))
      have HW8 := Lib.hid (HW7.out.keep HO8.out (fun x => x))
      have HH8 := Lib.hid (HH7.out.keep HO8.out (fun x => x))
      have HNK : Hid (gk ≠ w7.heap.size) := Lib.hid (by have := HK7.out.lt; omega)
      have HNW : Hid (wr.heap.size ≠ w7.heap.size) := Lib.hid (by have := HW7.out.lt; omega)
      have HNE : Hid (w7.heap.size ≠ gh) := Lib.hid (by have := HH7.out.lt; omega)
      refine ref_rnds _ _ _ _ _ _ _ _ _ _ _ _ _ _ _ _ _ _ _ _ _ _ _ _ _ _ _ _ _ _ _ _ _ _ _ _ _ _ _ _ _ _ _ _ _ _ _ _ _ _ _ _ _ _ _ _ _ _ _ _ _ _ _ _ _ _ _ _ _ _ _ _ _ _ _ _ _ _ _ _ _ _ _ _ _ _ _ _ _ _ _ _ _ _ _ _ _ _ _ _ _ _ _ _ _ _ _ _ _ _ _ _ _ _ _ _ _ _ _ _ _ _ _ _ _ _ _ _ _ _ _ _ _ _ _ _ _ _ _ _ _ _ _ _ _ _ _ _ _ _ _ _ _ _ _ _ _ _ _ _ _ _ _ _ _ _ _ _ _ _ _ _ _ _ _ _ _ _ _ _ _ _ _ _ _ _ _ _ _ _ _ _ _ _ _ _ _ _ _ _ _ _ _ _ _ _ _ _ _ _ _ _ _ _ _ _ _ _ _ _ _ _ _ _ _ _ _ _  (w := w8) (K := K) (W := W) (s := s) (z := z) (gv := w7.heap.size)  hrd HK8.out HW8.out HV8.out HNK.out HNW.out _ ?_
      intro u14 u15 u16 u17 u18 u19 u111 u112 u113 u114 u115 u116 u117 u118 u119 u120 u121 u122 u123 u124 u125 u126 u127 u128 u129 u130 u131 u132 u133 u134 u135 u136 u137 u138 u139 u140 u141 u142 u143 u144 u145 u146 u147 u148 u149 u150 u151 u152 u153 u154 u155 u156 u157 u158 u159 u160 u161 u162 u163 u164 u165 u166 u167 u168 u169 u170 u171 u172 u173 u174 u175 u176 u177 u178 u179 u180 u181 u182 u183 u184 u185 u186 u187 u188 u189 u190 u191 u192 u193 u194 u195 u196 u197 u198 u199 w9 hv9 ho9
      have HV9 := Lib.hid hv9
      have HH9 := Lib.hid (HH8.out.keep ho9 (fun e => HNE.out e.symm))
      have HO9 : Hid (Only (fun k => k = gh) w w9) := Lib.hid ((HO7.out.trans (HO8.out.mono (fun _ _ x => x.elim))).andThen ho9 (fun k hk e => by have := HO7.out.size; omega))
      clear hv9 ho9
      go_wp2
      refine ref_add _ _ _ _ _ _ _ _ _ _ _ _ _ _ _ _ _ _ _ _ _ _ _ _ _ _ _ _ _ _ _ _ _ _ _ _ _ _ _ _ _ _ _ _ _ _ _ _ _ _ _ _ _ _ _ _ _ _ _ _ _ _ _ _ _ _ _ _ _ _ _ _ _ _ _ _ _ _ _ _ _ _ _ _ _ _ _ _ _ _ _ _ _ _ _ _ _ _ _ _ _ _ _ _ _ _ _ _ _ _ _ _ _ _ _ _ _ _ _ _ _ _ _ _ _ _ _ _ _ _ _ _ _ _ _ _ _ _ _ _ _ _ _ _ _ _ _ _ _ _ _ _ _ _ _ _ _ _ _ _ _ _ _ _ _ _ _ _ _ _ _ _ _ _ _ _ _ _ _ _ _ _ _ _ _ _ _ _ _ _ _ _ _ _ _ _ _ _ _ _ _ _ _ _ _ _ _ _ _ _ _ _ _ _ _ _ _ _ _ _ _ _ _ _ _ _ _ _ _  (w := w9) (s := s) (v := z 64)  HH9.out HV9.out HNE.out _ ?_
      intro u20 u200 u201 u202 u203 u204 u205 u206 u207 u208 u209 u210 u211 u212 w10 hh10 ho10
      have hnx2 : Blk w10 gh (hscells (y (A + 64))) 102 := by rw [HNX.out]; exact hh10
      have HN10 := Lib.hid hnx2; have HO10 := Lib.hid (HO9.out.trans ho10)
      clear hh10 ho10 hnx2
      go_wp2
      exact ⟨⟨A + 64, HA64.out, by have := HA6.out; omega, by go_num, HN10.out, HO10.out⟩, by simp [intOf]; omega⟩
    · obtain rfl : A = m.length := by omega
      have HNX := Lib.hid hh; have HON := Lib.hid ho
      clear hh ho hmul
      go_wp2
      exact HX.out _ _ _ _ _ _ _ _ _ _ _ _ _ _ _ _ _ _ _ _ _ _ _ _ _ _ _ _ _ _ _ _ _ _ _ _ _ _ _ _ _ _ _ _ _ _ _ _ _ _ _ _ _ _ _ _ _ _ _ _ _ _ _ _ _ _ _ _ _ _ _ _ _ _ _ _ _ _ _ _ _ _ _ _ _ _ _ _ _ _ _ _ _ _ _ _ _ _ _ _ _ _ _ _ _ _ _ _ _ _ _ _ _ _ _ _ _ _ _ _ _ _ _ _ _ _ _ _ _ _ _ _ _ _ _ _ _ _ _ _ _ _ _ _ _ _ _ _ _ _ _ _ _ _ _ _ _ _ _ _ _ _ _ _ _ _ _ _ _ _ _ _ _ _ _ _ _ _ _ _ _ _ _ _ _ _ _ _ wr HNX.out HON.out

end Go.Proofs.YtgdnmbchhfbjoaaDoor

namespace Go.Proofs.YtgdnmbchhfbjoaaDoor
open Go.RowKit

set_option maxRecDepth 1000000 in
set_option maxHeartbeats 4000000 in
theorem ref_out (c0 c1 c2 c3 c4 c5 c7 c8 c9 c10 c11 c12 c13 c14 c15 c16 c17 c18 c19 c20 c23 c24 c25 c26 c27 c28 c29 c30 c31 c32 c33 c34 c35 c36 c37 c38 c39 c40 c41 c42 c43 c44 c45 c46 c47 c48 c49 c50 c51 c52 c53 c54 c55 c56 c57 c58 c59 c60 c61 c62 c63 c64 c65 c66 c67 c68 c69 c70 c71 c72 c73 c74 c75 c76 c77 c78 c79 c80 c81 c82 c83 c84 c85 c86 c87 c88 c89 c90 c91 c92 c93 c94 c95 c96 c97 c98 c99 c100 c101 c102 c103 c104 c105 c106 c107 c108 c109 c110 c111 c112 c113 c114 c115 c116 c117 c118 c119 c120 c121 c122 c123 c124 c125 c126 c127 c128 c129 c130 c131 c132 c133 c134 c135 c136 c137 c138 c139 c140 c141 c142 c143 c144 c145 c146 c147 c148 c149 c150 c151 c152 c153 c154 c155 c156 c157 c158 c159 c160 c161 c162 c163 c164 c165 c166 c167 c168 c169 c170 c171 c172 c173 c174 c175 c176 c177 c178 c179 c180 c181 c182 c183 c184 c185 c186 c187 c188 c189 c190 c191 c192 c193 c194 c195 c196 c197 c198 c199 c200 c201 c202 c203 c204 c205 c206 c207 c208 c209 c210 c211 c212 c213 c214 c215 c216 c217 c218 c219 c220 c221 c222 c223 c224 c225 c226 c227 c228 c229 c230 c231 : Value) {w : World} {gh go : Nat} {s : Sh.V8} (hh : Blk w gh (hscells s) 102) (ho : Blk w go (ocells 32 []) 22) (hne : gh ≠ go) (Q0 : Exit → Act → World → Prop)
    (hexit : ∀ (u22 u214 u215 u216 u217 u218 u219 u220 u221 u222 u223 u224 u225 u226 u227 u228 u229 u230 : Value) w', Blk w' go (ocells 32 (Sh.out s)) 22 → Only (fun k => k = go) w w' → Q0 (.exit 14) ⟨List.toArray (c0 :: c1 :: c2 :: c3 :: c4 :: c5 :: .pointer (some ⟨gh, 0, none⟩) :: c7 :: c8 :: c9 :: c10 :: c11 :: c12 :: c13 :: c14 :: c15 :: c16 :: c17 :: c18 :: c19 :: c20 :: .pointer (some ⟨go, 0, none⟩) :: u22 :: c23 :: c24 :: c25 :: c26 :: c27 :: c28 :: c29 :: c30 :: c31 :: c32 :: c33 :: c34 :: c35 :: c36 :: c37 :: c38 :: c39 :: c40 :: c41 :: c42 :: c43 :: c44 :: c45 :: c46 :: c47 :: c48 :: c49 :: c50 :: c51 :: c52 :: c53 :: c54 :: c55 :: c56 :: c57 :: c58 :: c59 :: c60 :: c61 :: c62 :: c63 :: c64 :: c65 :: c66 :: c67 :: c68 :: c69 :: c70 :: c71 :: c72 :: c73 :: c74 :: c75 :: c76 :: c77 :: c78 :: c79 :: c80 :: c81 :: c82 :: c83 :: c84 :: c85 :: c86 :: c87 :: c88 :: c89 :: c90 :: c91 :: c92 :: c93 :: c94 :: c95 :: c96 :: c97 :: c98 :: c99 :: c100 :: c101 :: c102 :: c103 :: c104 :: c105 :: c106 :: c107 :: c108 :: c109 :: c110 :: c111 :: c112 :: c113 :: c114 :: c115 :: c116 :: c117 :: c118 :: c119 :: c120 :: c121 :: c122 :: c123 :: c124 :: c125 :: c126 :: c127 :: c128 :: c129 :: c130 :: c131 :: c132 :: c133 :: c134 :: c135 :: c136 :: c137 :: c138 :: c139 :: c140 :: c141 :: c142 :: c143 :: c144 :: c145 :: c146 :: c147 :: c148 :: c149 :: c150 :: c151 :: c152 :: c153 :: c154 :: c155 :: c156 :: c157 :: c158 :: c159 :: c160 :: c161 :: c162 :: c163 :: c164 :: c165 :: c166 :: c167 :: c168 :: c169 :: c170 :: c171 :: c172 :: c173 :: c174 :: c175 :: c176 :: c177 :: c178 :: c179 :: c180 :: c181 :: c182 :: c183 :: c184 :: c185 :: c186 :: c187 :: c188 :: c189 :: c190 :: c191 :: c192 :: c193 :: c194 :: c195 :: c196 :: c197 :: c198 :: c199 :: c200 :: c201 :: c202 :: c203 :: c204 :: c205 :: c206 :: c207 :: c208 :: c209 :: c210 :: c211 :: c212 :: c213 :: u214 :: u215 :: u216 :: u217 :: u218 :: u219 :: u220 :: u221 :: u222 :: u223 :: u224 :: u225 :: u226 :: u227 :: u228 :: u229 :: u230 :: c231 :: []), []⟩ w') :
    Code.wp Tryd.prog (Code.loop (rloop 7)) Q0 ⟨List.toArray (c0 :: c1 :: c2 :: c3 :: c4 :: c5 :: .pointer (some ⟨gh, 0, none⟩) :: c7 :: c8 :: c9 :: c10 :: c11 :: c12 :: c13 :: c14 :: c15 :: c16 :: c17 :: c18 :: c19 :: c20 :: .pointer (some ⟨go, 0, none⟩) :: .int .i64 0 :: c23 :: c24 :: c25 :: c26 :: c27 :: c28 :: c29 :: c30 :: c31 :: c32 :: c33 :: c34 :: c35 :: c36 :: c37 :: c38 :: c39 :: c40 :: c41 :: c42 :: c43 :: c44 :: c45 :: c46 :: c47 :: c48 :: c49 :: c50 :: c51 :: c52 :: c53 :: c54 :: c55 :: c56 :: c57 :: c58 :: c59 :: c60 :: c61 :: c62 :: c63 :: c64 :: c65 :: c66 :: c67 :: c68 :: c69 :: c70 :: c71 :: c72 :: c73 :: c74 :: c75 :: c76 :: c77 :: c78 :: c79 :: c80 :: c81 :: c82 :: c83 :: c84 :: c85 :: c86 :: c87 :: c88 :: c89 :: c90 :: c91 :: c92 :: c93 :: c94 :: c95 :: c96 :: c97 :: c98 :: c99 :: c100 :: c101 :: c102 :: c103 :: c104 :: c105 :: c106 :: c107 :: c108 :: c109 :: c110 :: c111 :: c112 :: c113 :: c114 :: c115 :: c116 :: c117 :: c118 :: c119 :: c120 :: c121 :: c122 :: c123 :: c124 :: c125 :: c126 :: c127 :: c128 :: c129 :: c130 :: c131 :: c132 :: c133 :: c134 :: c135 :: c136 :: c137 :: c138 :: c139 :: c140 :: c141 :: c142 :: c143 :: c144 :: c145 :: c146 :: c147 :: c148 :: c149 :: c150 :: c151 :: c152 :: c153 :: c154 :: c155 :: c156 :: c157 :: c158 :: c159 :: c160 :: c161 :: c162 :: c163 :: c164 :: c165 :: c166 :: c167 :: c168 :: c169 :: c170 :: c171 :: c172 :: c173 :: c174 :: c175 :: c176 :: c177 :: c178 :: c179 :: c180 :: c181 :: c182 :: c183 :: c184 :: c185 :: c186 :: c187 :: c188 :: c189 :: c190 :: c191 :: c192 :: c193 :: c194 :: c195 :: c196 :: c197 :: c198 :: c199 :: c200 :: c201 :: c202 :: c203 :: c204 :: c205 :: c206 :: c207 :: c208 :: c209 :: c210 :: c211 :: c212 :: c213 :: c214 :: c215 :: c216 :: c217 :: c218 :: c219 :: c220 :: c221 :: c222 :: c223 :: c224 :: c225 :: c226 :: c227 :: c228 :: c229 :: c230 :: c231 :: []), []⟩ w := by
  conv => arg 2; arg 1; whnf
  have HH := Lib.hid hh; have HO := Lib.hid ho; have HX := Lib.hid hexit
  clear hh ho hexit
  go_loopw [22] (fun iv wr => ∃ i : Nat, i ≤ 32 ∧ iv = .int .i64 i ∧ Blk wr go (ocells 32 ((Sh.out s).take i)) 22 ∧ Only (fun k => k = go) w wr) (fun iv _ => 32 - (intOf iv).toNat)
  case atStart => exact ⟨0, Nat.zero_le _, rfl, HO.out, Only.refl _ _⟩
  case round =>
    obtain ⟨i, hi, rfl, hrow, ho⟩ := hrel
    by_cases hlt : i < 32
    · have hc : wr.cell? ⟨gh, i / 4, none⟩ = some (.int .u32 (s.list.getD (i / 4) 0)) := by
        rw [(HH.out.keep ho hne).cell]
        have : i / 4 < s.list.length := by simp [Sh.V8.list]; omega
        simp [hscells, this, wordV]
      have hf := hrow.frozen i
      have hlen : ((Sh.out s).take i).length = i := by simp [out_len]; omega
      have hz : wr.cell? ⟨go, i, none⟩ = some (.int .u8 0) := by rw [hrow.cell]; exact ocells_zero (by omega) hlt
      obtain ⟨x, hx⟩ : ∃ x, s.list.getD (i / 4) 0 = x := ⟨_, rfl⟩
      rw [hx] at hc
      have HST : Hid (Blk (wr.setCell ⟨go, i, none⟩ (.int .u8 (x / 2 ^ (24 - 8 * (i % 4)) % 256))) go (ocells 32 ((Sh.out s).take (i + 1))) 22) := by
        have := hrow.set i (byteV (Sh.byteAt s i))
        have e := ocells_set (n := 32) ((Sh.out s).take i) (Sh.byteAt s i) (by omega)
        rw [hlen] at e
        rw [e] at this
        have e2 : (Sh.out s).take (i + 1) = (Sh.out s).take i ++ [Sh.byteAt s i] := by
          rw [List.take_succ_eq_append_getElem (by rw [out_len]; exact hlt)]
          simp [Sh.out]
        rw [← e2] at this
        have e3 : byteV (Sh.byteAt s i) = .int .u8 (x / 2 ^ (24 - 8 * (i % 4)) % 256) := by
          rw [← hx]
          unfold byteV Sh.byteAt
          rw [u8_low]
        rwa [e3] at this
      have HOS : Hid (∀ v, Only (fun k => k = go) w (wr.setCell ⟨go, i, none⟩ v)) := fun v => ho.trans (Only.setCell ⟨go, i, none⟩ _)
      have k1 : IntKind.u64.wrap ((i : Int) % 4) = (i : Int) % 4 := Int.emod_eq_of_lt (by omega) (by have : (i : Int) % 4 < 4 := Int.emod_lt_of_pos _ (by decide); exact Int.lt_trans this (by decide))
      have k2 : IntKind.u64.wrap (8 * ((i : Int) % 4)) = 8 * ((i : Int) % 4) := Int.emod_eq_of_lt (by omega) (by have : (i : Int) % 4 < 4 := Int.emod_lt_of_pos _ (by decide); exact Int.lt_trans (show 8 * ((i : Int) % 4) < 32 by omega) (by decide))
      have k3 : IntKind.u64.wrap (24 - 8 * ((i : Int) % 4)) = 24 - 8 * ((i : Int) % 4) := Int.emod_eq_of_lt (by omega) (Int.lt_trans (show 24 - 8 * ((i : Int) % 4) < 32 by omega) (by decide))
      clear hrow ho hx hlen
      go_wp2
      refine ⟨⟨i + 1, by omega, by go_num, HST.out, HOS.out _⟩, ?_⟩
      simp [intOf]; omega
    · have e32 : (Sh.out s).take i = Sh.out s := List.take_of_length_le (by rw [out_len]; omega)
      rw [e32] at hrow
      have HROW := Lib.hid hrow; have HON := Lib.hid ho
      clear hrow ho e32
      go_wp2
      exact HX.out _ _ _ _ _ _ _ _ _ _ _ _ _ _ _ _ _ _ wr HROW.out HON.out

end Go.Proofs.YtgdnmbchhfbjoaaDoor

namespace Go.Proofs.YtgdnmbchhfbjoaaDoor
open Go.RowKit

theorem size_32b : (Tryd.prog.info? 22).map (·.size) = some 32 := by kernel_rfl

set_option maxRecDepth 1000000 in
set_option maxHeartbeats 4000000 in
theorem rSum_any {w : World} {S : Nat → Prop} {v : Value} {ps : List (List UInt8)} (hv : PartsAt w S v ps) (hS : ∀ k, S k → k < w.heap.size) (hlen : ps.flatten.length ≤ 549755813888) (hn : ps.length ≤ 1048576) :
    Calls Tryd.prog 51 #[v] w fun e w' => e = .returned (digV (Sh.sum ps.flatten)) ∧ Only (fun _ => False) w w' := by
  obtain ⟨va, vc, rfl, hcp, hat⟩ := id hv
  have HV := Lib.hid hv; have HAT := Lib.hid hat; have HS := Lib.hid hS; have HL := Lib.hid hlen
  clear hv hat hS hlen
  go_enter Tryd.func51, Tryd.ntmps51
  go_wp2_with (first
    | (refine wpList_build_as rfl 101 _ rfl kpairs (by simp [go_sem]; rfl) (Sh.ks.map wordV).toArray built_k ?_)
    | (refine wpList_store_row rfl 101 (.tmp 3) (.tmp 23) rfl (w.heap.size + 1) (Sh.ks.map wordV).toArray rfl rfl 101 (wcells []).toArray (Blk.new1 _ _ _ _) size_64w rfl (oneCell_words _) ?_))
  generalize hw2 : (((w.alloc _).alloc _).setRow (w.heap.size + 1) _) = w2
  have hk2 : Blk w2 (w.heap.size + 1) (Sh.ks.map wordV) 101 := by rw [← hw2]; exact (Blk.new1 w _ (wcells []) 101).row _
  have hr2 : Blk w2 w.heap.size (ocells 32 []) 22 := by rw [← hw2]; exact ((Blk.new w (ocells 32 []) 22).alloc _).rowNe _ (by omega)
  have ho2 : Only (fun _ => False) w w2 := by rw [← hw2]; exact ((Only.alloc _).trans (Only.alloc _)).andThen (Only.setRow _ _) (fun k hk e => by omega)
  have HK2 := Lib.hid hk2; have HR2 := Lib.hid hr2; have HO2 := Lib.hid ho2
  clear hw2 hk2 hr2 ho2
  go_loopw [4, 5] (fun mv iv wr => ∃ i : Nat, i ≤ ps.length ∧ iv = .int .i64 i ∧ Row w2 wr mv (ps.take i).flatten) (fun _ iv _ => ps.length - (intOf iv).toNat)
  case atStart => exact ⟨0, Nat.zero_le _, rfl, World.ownsRow_nil _ _ _ _, (fun q hq => by cases hq), Only.refl _ _⟩
  case round =>
    obtain ⟨i, hi, rfl, hr⟩ := hrel
    obtain ⟨ma, mc, rfl⟩ := hr.shape
    have hfl := flatten_take_le ps i
    by_cases hlt : i < ps.length
    · obtain ⟨ad, u, rfl, hsb, hcell, hby⟩ := HAT.out i hlt
      have how := HO2.out.trans hr.only
      have c1 : wr.cell? (ad.add i) = some u := by
        rw [World.cell?_of_block (w := w) (by rw [add_block]; exact how.block _ (HS.out _ hsb) (fun x => x))]
        exact hcell
      have hb1 := hby.only how HS.out (fun _ _ x => x)
      obtain ⟨ua, uc, rfl⟩ := hby.shape
      have hts := flatten_take_succ hlt
      have hle := flatten_take_le ps (i + 1)
      rw [hts, List.length_append] at hle
      have HB1 := Lib.hid hb1; have HR := Lib.hid hr; have HTS := Lib.hid hts; have HROW := Lib.hid hr.row
      have pz : 0 ≤ (i : Int) := by omega
      have mz : (i : Int) < (ps.length : Int) := by omega
      have HLE : Hid ((ps.take i).flatten.length + ps[i].length ≤ 140737488355328) := by have := HL.out; exact Lib.hid (by omega)
      clear hr hb1 hts hle hcell hby how hfl hsb
      generalize ps[i] = Y at *
      generalize (ps.take i).flatten = X at *
      go_wp2_with (at_builtin; refine wpList_append_bytes _ rfl _ _ rfl (.slice ma X.length mc) (.slice ua Y.length uc) X.length (X.map byteV) rfl rfl HROW.out HB1.out HLE.out ?_; intro a3 c3 w3 hr3 hg3 hat3; have h3 := Row.app HR.out (Only.refl _ _) rfl hr3 hg3 hat3; rw [← HTS.out] at h3; have H3 := Lib.hid h3; clear hr3 hg3 hat3 h3)
      exact ⟨⟨i + 1, by omega, by go_num, H3.out⟩, by simp [intOf]; omega⟩
    · have e : ps.take i = ps := List.take_of_length_le (by omega)
      rw [e] at hr ⊢
      have hfil := filled_any hr.bytes (fun _ h => h) (by have := HL.out; omega)
      have HFIL := Lib.hid hfil; have HR := Lib.hid hr
      clear hr hfil hfl e
      obtain ⟨m, hm⟩ : ∃ m, ps.flatten = m := ⟨_, rfl⟩
      have HM := Lib.hid hm
      rw [hm] at HFIL HR HL
      rw [hm]
      clear hm
      go_wp2_with (first
        | (go_at_call 61; refine HFIL.out.mono ?_; rintro e w3 ⟨a3, c3, rfl, hr3⟩; have HR3 := Lib.hid hr3; clear hr3)
        | (refine wpList_build_as rfl 102 _ rfl hpairs (by simp [go_sem]; rfl) (hscells Sh.h0).toArray built_h ?_)
        | (refine wpList_store_row rfl 102 (.tmp 6) (.tmp 38) rfl w3.heap.size (hscells Sh.h0).toArray rfl rfl 102 (hscells zero8).toArray (heap_alloc_last _ _) size_8w rfl (oneCell_words _) ?_; rw [World.setRow_alloc_new]; have HH4 := Lib.hid (Blk.new w3 (hscells Sh.h0) 102); have HR4 := Lib.hid (HR3.out.kept (Only.alloc (.cells (hscells Sh.h0).toArray 102))); generalize w3.alloc (.cells (hscells Sh.h0).toArray 102) = w4 at *))
      obtain ⟨M, hM⟩ : ∃ M, m ++ Sh.pad m.length = M := ⟨_, rfl⟩
      have hMl : m.length + (Sh.pad m.length).length = M.length := by rw [← hM, List.length_append]
      have hM64 : M.length % 64 = 0 := by rw [← hMl, pad_len]; unfold Sh.noughts; omega
      have hM40 : M.length ≤ 1099511627776 := by have := HL.out; have := noughts_lt m.length; rw [← hMl, pad_len]; omega
      rw [hMl]
      have hr4 := HR4.out.base (HO2.out.trans HR.out.only)
      rw [hM] at hr4
      have hst : RefIn w w4 (w.heap.size + 1) w3.heap.size (.slice a3 M.length c3) M (Sh.after M 0) := by
        have ho : Only (fun _ => False) w2 w4 := HR.out.only.trans HR4.out.only
        exact ⟨HR2.out.keep ho (fun x => x), HK2.out.keep ho (fun x => x), HH4.out, hr4, by omega, Nat.le_trans (HO2.out.trans HR.out.only).size HR3.out.only.size⟩
      have hne0 : M ≠ [] := by rintro rfl; rw [pad_len] at hMl; simp at hMl
      obtain ⟨g, rfl, hcell⟩ := row_cell hst.row hne0
      have hgg : g ≠ w3.heap.size := hst.h.ne_row hst.row.row (by decide) rfl
      have hrl : w.heap.size < w3.heap.size := Nat.lt_of_lt_of_le (Nat.lt_of_lt_of_le HR2.out.lt HR.out.only.size) HR3.out.only.size
      have hgk : w.heap.size + 1 ≠ w3.heap.size := by
        have h1 := HK2.out.lt
        have h2 := Nat.le_trans HR.out.only.size HR3.out.only.size
        omega
      have hbl := blocks_of hM64 hM40
      have HLAST : Hid (Sh.sum m = Sh.out (Sh.after M (M.length / 64))) := by
        unfold Sh.sum
        rw [hM, ← hMl, pad_len, Nat.add_assoc]
        exact Lib.hid rfl
      have HST := Lib.hid hst; have HGG := Lib.hid hgg; have HGK := Lib.hid hgk; have HRL := Lib.hid hrl
      clear hst hr4 hM hMl HR4 HH4 HR3 HR HFIL HR2 HK2 hgg hgk hrl hne0 hM64 hM40
      refine ref_blks _ _ _ _ _ _ _ _ _ _ _ _ _ _ _ _ _ _ _ _ _ _ _ _ _ _ _ _ _ _ _ _ _ _ _ _ _ _ _ _ _ _ _ _ _ _ _ _ _ _ _ _ _ _ _ _ _ _ _ _ _ _ _ _ _ _ _ _ _ _ _ _ _ _ _ _ _ _ _ _ _ _ _ _ _ _ _ _ _ _ _ _ _ _ _ _ _ _ _ _ _ _ _ _ _ _ _ _ _ _ _ _ _ _ _ _ _ _ _ _ _ _ _ _ _ _ _ _ _ _ _ _ _ _ _ _ _ _ _ _ _ _ _ _ _ _ _ _ _ _ _ _ _ _ _ _ _ _ _ _ _ _ _ _ _ _ _ _ _ _ _ _ _ _ _ _ _ _ _ _ _ _ _ _ _ _ _ _ _ _ _ _ _ _ _ _ _ _ _ _ _ _ _ _ _ _ _ _ _ _ _ _ _ _ _ _ _ _ _ _ _ _ _ _ _ _ _ _  (w := w4) (K := Sh.ks) (m := M) (y := fun A => Sh.after M (A / 64))  hbl HST.out.k HST.out.h hcell HGK.out HGG.out _ ?_
      intro u7 u8 u9 u10 u11 u12 u13 u14 u15 u16 u17 u18 u19 u20 u39 u40 u41 u42 u43 u44 u45 u46 u47 u48 u49 u50 u51 u52 u53 u54 u55 u56 u57 u58 u59 u60 u61 u62 u63 u64 u65 u66 u67 u68 u69 u70 u71 u72 u73 u74 u75 u76 u77 u78 u79 u80 u81 u82 u83 u84 u85 u86 u87 u88 u89 u90 u91 u92 u93 u94 u95 u96 u97 u98 u99 u100 u101 u102 u103 u104 u105 u106 u107 u108 u109 u110 u111 u112 u113 u114 u115 u116 u117 u118 u119 u120 u121 u122 u123 u124 u125 u126 u127 u128 u129 u130 u131 u132 u133 u134 u135 u136 u137 u138 u139 u140 u141 u142 u143 u144 u145 u146 u147 u148 u149 u150 u151 u152 u153 u154 u155 u156 u157 u158 u159 u160 u161 u162 u163 u164 u165 u166 u167 u168 u169 u170 u171 u172 u173 u174 u175 u176 u177 u178 u179 u180 u181 u182 u183 u184 u185 u186 u187 u188 u189 u190 u191 u192 u193 u194 u195 u196 u197 u198 u199 u200 u201 u202 u203 u204 u205 u206 u207 u208 u209 u210 u211 u212 w5 hh5 ho5
      obtain ⟨s5, hs5⟩ : ∃ s5, Sh.after M (M.length / 64) = s5 := ⟨_, rfl⟩
      have hh5' : Blk w5 w3.heap.size (hscells s5) 102 := by rw [← hs5]; exact hh5
      rw [hs5] at HLAST
      have HH5 := Lib.hid hh5'
      have HRES5 := Lib.hid (HST.out.res.keep ho5 (by have := HRL.out; omega))
      have HO5 : Hid (Only (fun _ => False) w w5) := Lib.hid (HST.out.row.only.andThen ho5 (fun k hk e => by have := HRL.out; omega))
      clear hh5 ho5 hh5' hs5 hbl hcell HST
      go_wp2_with (first
        | (refine wpList_build_as rfl 22 #[] rfl [] (by simp [go_sem]) (ocells 32 []).toArray built_o ?_)
        | (refine wpList_store_row rfl 22 (.tmp 21) (.tmp 213) rfl w5.heap.size (ocells 32 []).toArray rfl rfl 22 (ocells 32 []).toArray (heap_alloc_last _ _) size_32b rfl (oneCell_bytes (List.replicate 32 0)) ?_; rw [World.setRow_alloc_new]; have HB6 := Lib.hid (Blk.new w5 (ocells 32 []) 22); have HO6 : Hid (Only (fun _ => False) w5 (w5.alloc (.cells (ocells 32 []).toArray 22))) := Only.alloc _; generalize w5.alloc (.cells (ocells 32 []).toArray 22) = w6 at *))
      have HH6 := Lib.hid (HH5.out.keep HO6.out (fun x => x))
      have HNE : Hid (w3.heap.size ≠ w5.heap.size) := Lib.hid (by have := HH5.out.lt; omega)
      refine ref_out _ _ _ _ _ _ _ _ _ _ _ _ _ _ _ _ _ _ _ _ _ _ _ _ _ _ _ _ _ _ _ _ _ _ _ _ _ _ _ _ _ _ _ _ _ _ _ _ _ _ _ _ _ _ _ _ _ _ _ _ _ _ _ _ _ _ _ _ _ _ _ _ _ _ _ _ _ _ _ _ _ _ _ _ _ _ _ _ _ _ _ _ _ _ _ _ _ _ _ _ _ _ _ _ _ _ _ _ _ _ _ _ _ _ _ _ _ _ _ _ _ _ _ _ _ _ _ _ _ _ _ _ _ _ _ _ _ _ _ _ _ _ _ _ _ _ _ _ _ _ _ _ _ _ _ _ _ _ _ _ _ _ _ _ _ _ _ _ _ _ _ _ _ _ _ _ _ _ _ _ _ _ _ _ _ _ _ _ _ _ _ _ _ _ _ _ _ _ _ _ _ _ _ _ _ _ _ _ _ _ _ _ _ _ _ _ _ _ _ _ _ _ _ _ _ _ _ _ _  (w := w6) (s := s5) (go := w5.heap.size)  HH6.out HB6.out HNE.out _ ?_
      intro u22 u214 u215 u216 u217 u218 u219 u220 u221 u222 u223 u224 u225 u226 u227 u228 u229 u230 w7 hr7 ho7
      have hres := (HRES5.out.keep HO6.out (fun x => x)).keep ho7 (by have := HRES5.out.lt; omega)
      have hrow : Blk w7 w5.heap.size ((Sh.out s5).map byteV) 22 := by rw [← ocells_full (out_len s5)]; exact hr7
      have ho : Only (fun _ => False) w w7 := (HO5.out.trans HO6.out).andThen ho7 (fun k hk e => by have := HO5.out.size; omega)
      have HRES := Lib.hid hres.heap
      have HROW := Lib.hid hrow.heap
      have HFIN : Hid ((w7.setRow w.heap.size ((Sh.out s5).map byteV).toArray).heap[w.heap.size]? = some (.cells ((Sh.out s5).map byteV).toArray 22 (0, 0)) ∧ Only (fun _ => False) w (w7.setRow w.heap.size ((Sh.out s5).map byteV).toArray)) :=
        ⟨hres.row _, ho.andThen (Only.setRow _ _) (fun k hk e => by omega)⟩
      have esz : ((Sh.out s5).map byteV).toArray.size = 32 := by simp [out_len]
      have hsz : (Tryd.prog.info? 22).map (·.size) = some ((Sh.out s5).map byteV).toArray.size := by
        rw [esz]; kernel_rfl
      have hwz : (ocells 32 []).toArray.size = ((Sh.out s5).map byteV).toArray.size := by
        rw [esz]; simp [ocells]
      have hone := oneCell_bytes (Sh.out s5)
      have HSZ := Lib.hid hsz; have HWZ := Lib.hid hwz; have HONE := Lib.hid hone
      clear hrow hres esz hsz hwz hone ho hr7 ho7 HRES5 HO6 HB6 HH6 HH5 HO5
      generalize hA : ((Sh.out s5).map byteV).toArray = A at *
      have HA := Lib.hid hA
      clear hA
      generalize (ocells 32 []).toArray = Z at *
      go_wp2_with (first
        | (refine wpList_load_row rfl 22 (.tmp 21) rfl w5.heap.size rfl 22 A (0, 0) _ HROW.out Tryd.underlying22 rfl HSZ.out ?_)
        | (refine wpList_store_row rfl 22 (.tmp 2) (.tmp 231) rfl w.heap.size A rfl rfl 22 Z HRES.out HSZ.out HWZ.out HONE.out ?_))
      refine bodyPost_ret (v := .agg A) (results_cell_row rfl _ _ w.heap.size 22 A (0, 0) _ rfl HFIN.out.1 Tryd.underlying22 rfl HSZ.out) rfl ⟨?_, HFIN.out.2⟩
      rw [HM.out, HLAST.out, ← HA.out]
      rfl

end Go.Proofs.YtgdnmbchhfbjoaaDoor

namespace Go.Proofs.YtgdnmbchhfbjoaaDoor
open Go.RowKit

theorem dig_lits {D : List UInt8} (h : D.length = 32) : Tryd.prog.keyLits 2 22 (D.map byteV) = some ((List.range 32).map fun i => [Lit.int .u8 ((D.getD i 0).toNat : Int)]).flatten := by
  have hc : Tryd.prog.cellsOf 22 = 32 := by kernel_rfl
  have hc1 : Tryd.prog.cellsOf 5 = 1 := by kernel_rfl
  unfold Program.keyLits
  simp only [Tryd.underlying22, hc, hc1, List.length_map, h, if_true]
  rw [Lay.mapM_some' _ (fun i => [Lit.int .u8 ((D.getD i 0).toNat : Int)])]
  · rfl
  · intro i hi
    have hi : i < 32 := List.mem_range.1 hi
    have e : ((D.map byteV).drop (i * 1)).take 1 = [byteV (D.getD i 0)] := by
      rw [Nat.mul_one, List.drop_eq_getElem_cons (by simp; omega)]
      simp [h, hi]
    rw [e]
    generalize D.getD i 0 = x
    unfold Program.keyLits byteV
    have hq := x.toNat_lt
    simp only [Tryd.underlying5]
    rw [if_pos ⟨trivial, by simp [Lit.wf, IntKind.min, IntKind.max, IntKind.signed, IntKind.bits]; omega⟩]

theorem dig_same {D : List UInt8} (h : D.length = 32) (w : World) : (Op.equalIn 10000 22 (digV D) (digV D)).run Tryd.prog w = .ok true w := by
  have hf : (digV D).formed Tryd.prog 22 = true := by
    have hc : Tryd.prog.cellsOf 22 = 32 := by kernel_rfl
    simp [digV, Value.formed, Tryd.underlying22, hc, h]
  obtain ⟨r, hr, hi⟩ := run_equalIn_deep (P := Tryd.prog) 9998 2 22 (by kernel_rfl) w 2 2 (digV D) (digV D) _ _ hf hf (dig_lits h) (dig_lits h)
  have e : r = true := hi.2 rfl
  rw [e] at hr
  exact hr

theorem dig_eql {D : List UInt8} (h : D.length = 32) (w : World) : (binOp .eql 22 (digV D) (digV D)).run Tryd.prog w = .ok (.bool true) w := by
  have := dig_same h w
  unfold digV at *
  rw [run_eql_struct, this]
  rfl
theorem dig_neq {D : List UInt8} (h : D.length = 32) (w : World) : (binOp .neq 22 (digV D) (digV D)).run Tryd.prog w = .ok (.bool false) w := by
  have := dig_same h w
  unfold digV at *
  rw [run_neq_struct, this]
  rfl

theorem dig_guard (op : BinOp) (x y : Operand) (D : List UInt8) (ys : Array Value) (w : World) : (eqGuard op 22 x y (digV D) (.agg ys)).run Tryd.prog w = .ok () w :=
  run_eqGuard_agg w op 22 x y _ ys (by kernel_rfl)
theorem dig_guard2 (op : BinOp) (x y : Operand) (D E : List UInt8) (w : World) : (eqGuard op 22 x y (digV D) (digV E)).run Tryd.prog w = .ok () w := dig_guard op x y D _ w

end Go.Proofs.YtgdnmbchhfbjoaaDoor

namespace Go.Proofs.YtgdnmbchhfbjoaaDoor
open Go.RowKit

theorem laid_sum {key : List UInt8} (h : 64 < key.length) : Sh.laid (Sh.sum key) = Sh.laid key := by
  unfold Sh.laid
  simp [h, sum_len]
theorem mac_long {key : List UInt8} (h : 64 < key.length) (m : List UInt8) : Sh.mac (Sh.sum key) m = Sh.mac key m := by
  unfold Sh.mac Sh.masked
  rw [laid_sum h]
theorem laid_zero {key : List UInt8} (h : key.length < 64) : Sh.laid (key ++ [0]) = Sh.laid key := by
  unfold Sh.laid
  have h1 : ¬ 64 < (key ++ [0]).length := by simp; omega
  have h2 : ¬ 64 < key.length := by omega
  rw [if_neg h1, if_neg h2]
  simp only [List.length_append, List.length_cons, List.length_nil, List.append_assoc]
  congr 1
  rw [show 64 - key.length = (64 - (key.length + (0 + 1))) + 1 by omega, List.replicate_succ]
  rfl
theorem mac_zero {key : List UInt8} (h : key.length < 64) (m : List UInt8) : Sh.mac (key ++ [0]) m = Sh.mac key m := by
  unfold Sh.mac Sh.masked
  rw [laid_zero h]
theorem derived_take (s k i : List UInt8) (n j : Nat) (h : j ≤ n) : (derived s k i n).take j = derived s k i j := by
  rw [← derived_eq s k i j ((n + 31) / 32) (by omega)]
  unfold derived
  rw [List.take_take, Nat.min_eq_left h]

end Go.Proofs.YtgdnmbchhfbjoaaDoor

namespace Go.Proofs.YtgdnmbchhfbjoaaDoor
open Go.RowKit

/-- The key, or its digest. -/
def keyOf (key : List UInt8) : List UInt8 := if 64 < key.length then Sh.sum key else key
theorem keyOf_len (key : List UInt8) : (keyOf key).length ≤ 64 := by
  unfold keyOf
  split
  · rw [sum_len]; decide
  · omega
theorem laid_keyOf (key : List UInt8) : Sh.laid key = keyOf key ++ List.replicate (64 - (keyOf key).length) 0 := rfl
theorem laid_getD (key : List UInt8) (i : Nat) : (Sh.laid key).getD i 0 = (keyOf key).getD i 0 := by
  rw [laid_keyOf, List.getD_eq_getElem?_getD, List.getD_eq_getElem?_getD]
  by_cases h : i < (keyOf key).length
  · rw [List.getElem?_append_left h]
  · rw [List.getElem?_append_right (by omega), List.getElem?_eq_none (l := keyOf key) (by omega), List.getElem?_replicate]
    split <;> rfl

/-- A block that is known whole, as an owned row. -/
theorem Blk.owns {w : World} {g : Nat} {bs : List UInt8} (h : Blk w g (bs.map byteV) 5) (hl : bs.length = 64) : w.ownsRow 0 5 1 (.slice (some ⟨g, 0, none⟩) 64 64) 64 (bs.map byteV) :=
  ⟨by simp [hl], .inr ⟨g, 64, (bs.map byteV).toArray, rfl, Nat.zero_le _, h.heap, Nat.le_refl _, by unfold maxLen; decide, by simp [hl], by rw [Nat.mul_one]; exact List.take_of_length_le (by simp [hl])⟩⟩
theorem Blk.bytes64 {w : World} {g : Nat} {bs : List UInt8} (h : Blk w g (bs.map byteV) 5) (hl : bs.length = 64) : BytesAt w (fun k => k = g) (.slice (some ⟨g, 0, none⟩) 64 64) bs := by
  have := BytesAt.of_block (o := 0) (c := 64) (bs := bs) h.heap (by omega) (fun j x hx => by rw [Nat.zero_add, List.getElem?_map, hx]; rfl)
  rwa [hl] at this

/-- A row that is filled with masked bytes, one more. -/
theorem mask_next {wr : World} {g i : Nat} {key : List UInt8} {x : UInt8} (hb : Blk wr g (ocells 64 ((Sh.masked key x).take i)) 5) (hi : i < 64) :
    Blk (wr.setCell ⟨g, i, none⟩ (byteV ((keyOf key).getD i 0 ^^^ x))) g (ocells 64 ((Sh.masked key x).take (i + 1))) 5 := by
  have hlen : ((Sh.masked key x).take i).length = i := by rw [List.length_take, masked_len]; omega
  have := hb.set i (byteV ((keyOf key).getD i 0 ^^^ x))
  have e := ocells_set (n := 64) ((Sh.masked key x).take i) ((keyOf key).getD i 0 ^^^ x) (by omega)
  rw [hlen] at e
  rw [e] at this
  rw [List.take_succ_eq_append_getElem (by rw [masked_len]; exact hi)]
  have hil : i < (Sh.laid key).length := by rw [laid_len]; exact hi
  have e2 : (Sh.masked key x)[i]'(by rw [masked_len]; exact hi) = (keyOf key).getD i 0 ^^^ x := by
    rw [← laid_getD]
    simp [Sh.masked, hil]
  rw [e2]
  exact this

/-- What the loop over the key's bytes keeps. -/
structure MacIn (w wr : World) (r g1 g2 : Nat) (key : List UInt8) (s0 : Value) (i : Nat) : Prop where
  res : Blk wr r (ocells 32 []) 22
  ins : Blk wr g1 (ocells 64 ((Sh.masked key 0x36).take i)) 5
  outs : Blk wr g2 (ocells 64 ((Sh.masked key 0x5c).take i)) 5
  key : BytesAt wr (fun k => k < g1) s0 (keyOf key)
  only : Only (fun _ => False) w wr

/-- What the loop over the parts keeps. -/
structure MacMid (w wr : World) (r g2 : Nat) (key : List UInt8) (mv : Value) (bs : List UInt8) : Prop where
  res : Blk wr r (ocells 32 []) 22
  row : Row w wr mv bs
  outs : Blk wr g2 ((Sh.masked key 0x5c).map byteV) 5
  ne : mv.ownBlock ≠ some g2
  far : ∀ q, mv.ownBlock = some q → r < q

theorem MacMid.app {w wr w2 : World} {r g2 : Nat} {key bs y : List UInt8} {ov : Value} {a : Option Addr} {n c : Nat} (h : MacMid w wr r g2 key ov bs) (hn : n = bs.length + y.length) (hr : w2.ownsRow 0 5 1 (.slice a n c) n (bs.map byteV ++ y.map byteV)) (hg : wr.grownBy w2 ov.ownBlock) (hat : (Value.slice a n c).ownBlock = ov.ownBlock ∨ (Value.slice a n c).ownBlock = some wr.heap.size) :
    MacMid w w2 r g2 key (.slice a n c) (bs ++ y) := by
  have ho : Only (fun k => some k = ov.ownBlock) wr w2 := Only.of_grown hg
  refine ⟨h.res.keep ho (fun e => by have := h.far r e.symm; omega), h.row.app (Only.refl _ _) hn hr hg hat, h.outs.keep ho (fun e => h.ne e.symm), fun e => ?_, fun q hq => ?_⟩
  · rcases hat with h1 | h1
    · exact h.ne (h1.symm.trans e)
    · rw [e] at h1
      have := Option.some.inj h1
      have := h.outs.lt
      omega
  · rcases hat with h1 | h1
    · exact h.far q (h1.symm.trans hq)
    · rw [hq] at h1
      have := Option.some.inj h1
      have := h.res.lt
      omega

set_option maxRecDepth 100000 in
set_option maxHeartbeats 2000000 in
theorem rMac_any {w : World} {S : Nat → Prop} {vk v : Value} {key : List UInt8} {ps : List (List UInt8)} (hk : BytesAt w S vk key) (hv : PartsAt w S v ps) (hS : ∀ k, S k → k < w.heap.size) (hkl : key.length ≤ 274877906944) (hlen : ps.flatten.length ≤ 274877906944) (hn : ps.length ≤ 1048576) :
    Calls Tryd.prog 34 #[vk, v] w fun e w' => e = .returned (digV (Sh.mac key ps.flatten)) ∧ Only (fun _ => False) w w' := by
  obtain ⟨va, vc, rfl, hcp, hat⟩ := id hv
  obtain ⟨ka, kc, rfl⟩ := hk.shape
  have HK := Lib.hid hk; have HV := Lib.hid hv; have HS := Lib.hid hS; have HL := Lib.hid hlen; have HKL := Lib.hid hkl; have HAT := Lib.hid hat
  have ho1 : Only (fun _ => False) w (w.alloc (.cells (ocells 32 []).toArray 22)) := Only.alloc _
  have hr1 : Blk (w.alloc (.cells (ocells 32 []).toArray 22)) w.heap.size (ocells 32 []) 22 := Blk.new _ _ _
  have hz1 : (w.alloc (.cells (ocells 32 []).toArray 22)).heap.size = w.heap.size + 1 := by simp
  have HO1 := Lib.hid ho1; have HR1 := Lib.hid hr1; have HZ1 := Lib.hid hz1
  clear hk hv hS hkl hlen hat ho1 hr1 hz1
  go_enter Tryd.func34, Tryd.ntmps34
  go_upto_if 14 with (fail)
  change Code.wp _ _ _ _ (w.alloc (.cells (ocells 32 []).toArray 22))
  generalize w.alloc (.cells (ocells 32 []).toArray 22) = w1 at *
  go_cut [0] (fun s0 wx => BytesAt wx (fun k => k < wx.heap.size) s0 (keyOf key) ∧ Only (fun _ => False) w1 wx)
  case first =>
    by_cases h64 : 64 < key.length
    · have h64i : (64 : Int) < (key.length : Int) := by omega
      have hk1 := HK.out.only HO1.out HS.out (fun _ _ x => x)
      have hp := one_part hk1 (fun k hk => Nat.lt_of_lt_of_le (HS.out k hk) HO1.out.size)
      have hsum := rSum_any hp (fun _ h => h) (by have := HKL.out; simp; omega) (by simp)
      rw [List.flatten_cons, List.flatten_nil, List.append_nil] at hsum
      have e : keyOf key = Sh.sum key := by unfold keyOf; rw [if_pos h64]
      have HE := Lib.hid e; have HSUM := Lib.hid hsum; have HD := Lib.hid (sum_len key)
      have hY : ∀ g w1, (Instr.sliceAt 22 (.pointer (some ⟨g, 0, none⟩)) none none none).run Tryd.prog w1 = .ok (.slice (some ⟨g, 0, none⟩) 32 32) w1 := slice_all_32
      clear hk1 hp hsum e h64
      go_wp2_with (first
        | (go_at_call 51; refine HSUM.out.mono ?_; rintro e w3 ⟨rfl, ho3⟩; have HO3 := Lib.hid ((Only.alloc (w := w1) (.cells #[.slice ka key.length kc] 23)).trans ho3); clear ho3)
        | (refine wpList_store_row rfl 22 (.tmp 5) (.tmp 17) rfl w3.heap.size ((Sh.sum key).map byteV).toArray rfl rfl 22 (ocells 32 []).toArray (heap_alloc_last _ _) (hsize_a32 HD.out) (by simp [HD.out, ocells]) (oneCell_bytes _) ?_; rw [World.setRow_alloc_new]; have HV4 := Lib.hid (dig_bytes (Blk.new w3 ((Sh.sum key).map byteV) 22) HD.out); have HO4 := Lib.hid (HO3.out.trans (Only.alloc (.cells ((Sh.sum key).map byteV).toArray 22))); have HLT := Lib.hid ((Blk.new w3 ((Sh.sum key).map byteV) 22).lt); generalize w3.alloc (.cells ((Sh.sum key).map byteV).toArray 22) = w4 at *))
      go_meet
      exact ⟨by rw [HE.out]; exact HV4.out.mono (fun k hk => by subst hk; exact HLT.out), HO4.out⟩
    · have h64i : ¬ (64 : Int) < (key.length : Int) := by omega
      have e : keyOf key = key := by unfold keyOf; rw [if_neg h64]
      have HE := Lib.hid e
      have HK1 := Lib.hid ((HK.out.only HO1.out HS.out (fun _ _ x => x)).mono (S' := fun k => k < w1.heap.size) (fun k hk => Nat.lt_of_lt_of_le (HS.out k hk) HO1.out.size))
      clear e h64
      go_wp2_with fail
      go_meet
      exact ⟨by rw [HE.out]; exact HK1.out, Only.refl _ _⟩
  case rest =>
    obtain ⟨hk2, ho2⟩ := hcut
    obtain ⟨w2, hw2⟩ : ∃ q, q = wc := ⟨_, rfl⟩
    subst hw2
    obtain ⟨ua, uc, rfl⟩ := hk2.shape
    have hkl := keyOf_len key
    have hmk := make64
    have hst : MacIn w ((w2.alloc (.cells (ocells 64 []).toArray 5)).alloc (.cells (ocells 64 []).toArray 5)) w.heap.size w2.heap.size (w2.heap.size + 1) key (.slice ua (keyOf key).length uc) 0 := by
      have ho : Only (fun _ => False) w2 ((w2.alloc (.cells (ocells 64 []).toArray 5)).alloc (.cells (ocells 64 []).toArray 5)) := (Only.alloc _).trans (Only.alloc _)
      refine ⟨(HR1.out.keep ho2 (fun x => x)).keep ho (fun x => x), (Blk.new _ _ _).alloc _, Blk.new1 _ _ _ _, hk2.only ho (fun _ h => h) (fun _ _ x => x), (HO1.out.trans ho2).trans ho⟩
    have HST := Lib.hid hst
    have HGZ : Hid (w.heap.size + 1 ≤ w2.heap.size) := by have := ho2.size; have := HZ1.out; exact Lib.hid (by omega)
    clear hk2 ho2 hst HR1 HZ1 HO1 HK
    generalize (ocells 64 []).toArray = Z at *
    go_wp2
    go_loopw [8] (fun iv wr => ∃ i : Nat, i ≤ 64 ∧ iv = .int .i64 i ∧ MacIn w wr w.heap.size w2.heap.size (w2.heap.size + 1) key (.slice ua (keyOf key).length uc) i) (fun iv _ => 64 - (intOf iv).toNat)
    case atStart => exact ⟨0, Nat.zero_le _, rfl, HST.out⟩
    case round =>
      obtain ⟨i, hi, rfl, hm⟩ := hrel
      by_cases hlt : i < 64
      · have hl36 : ((Sh.masked key 0x36).take i).length = i := by rw [List.length_take, masked_len]; omega
        have hl5c : ((Sh.masked key 0x5c).take i).length = i := by rw [List.length_take, masked_len]; omega
        have z1 : wr.cell? ⟨w2.heap.size, i, none⟩ = some (.int .u8 0) := by rw [hm.ins.cell]; exact ocells_zero (by omega) hlt
        have z2 : wr.cell? ⟨w2.heap.size + 1, i, none⟩ = some (.int .u8 0) := by rw [hm.outs.cell]; exact ocells_zero (by omega) hlt
        have f1 := hm.ins.frozen i
        have f2 := hm.outs.frozen i
        have HNX : Hid (MacIn w ((wr.setCell ⟨w2.heap.size, i, none⟩ (byteV ((keyOf key).getD i 0 ^^^ 0x36))).setCell ⟨w2.heap.size + 1, i, none⟩ (byteV ((keyOf key).getD i 0 ^^^ 0x5c))) w.heap.size w2.heap.size (w2.heap.size + 1) key (.slice ua (keyOf key).length uc) (i + 1)) := by
          have hz := HGZ.out
          have o1 : Only (fun k => k = w2.heap.size) wr (wr.setCell ⟨w2.heap.size, i, none⟩ (byteV ((keyOf key).getD i 0 ^^^ 0x36))) := Only.setCell ⟨w2.heap.size, i, none⟩ _
          have b1 := mask_next hm.ins hlt
          have b2 := hm.outs.keep o1 (by omega)
          have b3 := hm.res.keep o1 (by omega)
          have k1 := hm.key.only o1 (fun k hk => Nat.lt_trans hk hm.ins.lt) (fun k hk e => by omega)
          have q1 := hm.only.andThen o1 (fun k hk e => by omega)
          generalize wr.setCell ⟨w2.heap.size, i, none⟩ (byteV ((keyOf key).getD i 0 ^^^ 0x36)) = wa at *
          have o2 : Only (fun k => k = w2.heap.size + 1) wa (wa.setCell ⟨w2.heap.size + 1, i, none⟩ (byteV ((keyOf key).getD i 0 ^^^ 0x5c))) := Only.setCell ⟨w2.heap.size + 1, i, none⟩ _
          exact ⟨b3.keep o2 (by omega), b1.keep o2 (by omega), mask_next b2 hlt, k1.only o2 (fun k hk => Nat.lt_trans hk b1.lt) (fun k hk e => by omega), q1.andThen o2 (fun k hk e => by omega)⟩
        have X1 : Hid (bits .xor .u8 (((keyOf key).getD i 0).toNat : Int) 54 = (((keyOf key).getD i 0 ^^^ 0x36).toNat : Int)) := Lib.hid (bits_xor_u8 ((keyOf key).getD i 0) 0x36)
        have X2 : Hid (bits .xor .u8 (((keyOf key).getD i 0).toNat : Int) 92 = (((keyOf key).getD i 0 ^^^ 0x5c).toNat : Int)) := Lib.hid (bits_xor_u8 ((keyOf key).getD i 0) 0x5c)
        have hne : w2.heap.size ≠ w2.heap.size + 1 := by omega
        by_cases hik : i < (keyOf key).length
        · have hki : (i : Int) < ((keyOf key).length : Int) := by omega
          have hg : (keyOf key)[i]? = some ((keyOf key).getD i 0) := by rw [List.getD_eq_getElem?_getD, List.getElem?_eq_getElem hik]; rfl
          rcases hm.key with ⟨_, e0⟩ | ⟨ad, c, ev, _, hS0, hc0⟩
          · rw [e0] at hik; exact absurd hik (by simp)
          · obtain ⟨e1, _, e3⟩ := Value.slice.inj ev
            subst e1 e3
            have c1 := hc0 i _ hg
            unfold byteV at c1
            clear ev hS0 hc0 hg hm hmk hl36 hl5c hik
            generalize (keyOf key).getD i 0 = b at *
            generalize (keyOf key).length = n at *
            go_wp2
            refine ⟨⟨i + 1, by omega, by go_num, ?_⟩, by simp [intOf]; omega⟩
            rw [X1.out, X2.out]
            exact HNX.out
        · have hki : ¬ (i : Int) < ((keyOf key).length : Int) := by omega
          have hg : (keyOf key).getD i 0 = 0 := by rw [List.getD_eq_getElem?_getD, List.getElem?_eq_none (by omega)]; rfl
          rw [hg] at HNX
          clear hg hm hmk hl36 hl5c hik
          generalize (keyOf key).length = n at *
          go_wp2
          refine ⟨⟨i + 1, by omega, by go_num, ?_⟩, by simp [intOf]; omega⟩
          exact HNX.out
      · obtain rfl : i = 64 := by omega
        rw [show ((64 : Nat) : Int) = (64 : Int) from rfl]
        have hres := hm.res
        have hins := hm.ins
        have houts := hm.outs
        rw [List.take_of_length_le (by rw [masked_len]; exact Nat.le_refl _), ocells_full (masked_len _ _)] at hins houts
        have hon := hm.only
        have hz := HGZ.out
        have hst2 : MacMid w wr w.heap.size (w2.heap.size + 1) key (.slice (some ⟨w2.heap.size, 0, none⟩) 64 64) (Sh.masked key 0x36) := by
          have hlw := houts.lt
          refine ⟨hres, ⟨by rw [masked_len]; exact hins.owns (masked_len _ _), fun q hq => ?_, hon⟩, houts, fun h => ?_, fun q hq => ?_⟩
          · have : w2.heap.size = q := Option.some.inj hq
            omega
          · have : w2.heap.size = w2.heap.size + 1 := Option.some.inj h
            omega
          · have : w2.heap.size = q := Option.some.inj hq
            omega
        have HST2 := Lib.hid hst2
        clear hm hres hins houts hon hst2 hmk HST hz
        have HG2 : Hid (w.heap.size + 2 ≤ w2.heap.size + 1) := Lib.hid (by have := HGZ.out; omega)
        generalize w2.heap.size + 1 = g2 at *
        generalize w2.heap.size = g1 at *
        go_wp2
        go_loopw [6, 10] (fun mv iv wq => ∃ i : Nat, i ≤ ps.length ∧ iv = .int .i64 i ∧ MacMid w wq w.heap.size g2 key mv (Sh.masked key 0x36 ++ (ps.take i).flatten)) (fun _ iv _ => ps.length - (intOf iv).toNat)
        case atStart => exact ⟨0, Nat.zero_le _, rfl, by simpa using HST2.out⟩
        case round =>
          obtain ⟨i, hi, rfl, hm⟩ := hrel
          obtain ⟨ma, mc, rfl⟩ := hm.row.shape
          have hfl := flatten_take_le ps i
          by_cases hlt : i < ps.length
          · obtain ⟨ad, u, rfl, hsb, hcell, hby⟩ := HAT.out i hlt
            have how := hm.row.only
            have c1 : wr.cell? (ad.add i) = some u := by
              rw [World.cell?_of_block (w := w) (by rw [add_block]; exact how.block _ (HS.out _ hsb) (fun x => x))]
              exact hcell
            have hb1 := hby.only how HS.out (fun _ _ x => x)
            obtain ⟨ya, yc, rfl⟩ := hby.shape
            have hts := flatten_take_succ hlt
            have hle := flatten_take_le ps (i + 1)
            rw [hts, List.length_append] at hle
            have HB1 := Lib.hid hb1; have HM := Lib.hid hm; have HTS := Lib.hid hts; have HROW := Lib.hid hm.row.row
            have pz : 0 ≤ (i : Int) := by omega
            have mz : (i : Int) < (ps.length : Int) := by omega
            have HLE : Hid ((Sh.masked key 0x36 ++ (ps.take i).flatten).length + ps[i].length ≤ 140737488355328) := by have := HL.out; rw [List.length_append, masked_len]; exact Lib.hid (by omega)
            clear hm hb1 hts hle hcell hby how hfl hsb
            generalize ps[i] = Y at *
            have HEX : Hid ((Sh.masked key 0x36 ++ (ps.take i).flatten) ++ Y = Sh.masked key 0x36 ++ (ps.take (i + 1)).flatten) := by rw [HTS.out, List.append_assoc]; exact Lib.hid rfl
            generalize Sh.masked key 0x36 ++ (ps.take i).flatten = X at *
            go_wp2_with (at_builtin; refine wpList_append_bytes _ rfl _ _ rfl (.slice ma X.length mc) (.slice ya Y.length yc) X.length (X.map byteV) rfl rfl HROW.out HB1.out HLE.out ?_; intro a3 c3 w3 hr3 hg3 hat3; have H3 := Lib.hid (MacMid.app HM.out rfl hr3 hg3 hat3); clear hr3 hg3 hat3)
            have h3 := H3.out
            rw [HEX.out] at h3
            exact ⟨⟨i + 1, by omega, by go_num, h3⟩, by simp [intOf]; omega⟩
          · have e : ps.take i = ps := List.take_of_length_le (by omega)
            rw [e] at hm
            have hp := one_part hm.row.bytes (fun _ h => h)
            have hs1 := rSum_any hp (fun _ h => h) (by have := HL.out; rw [List.flatten_cons, List.flatten_nil, List.append_nil, List.length_append, masked_len]; omega) (by simp)
            rw [List.flatten_cons, List.flatten_nil, List.append_nil] at hs1
            have hY : ∀ g w1, (Instr.sliceAt 22 (.pointer (some ⟨g, 0, none⟩)) none none none).run Tryd.prog w1 = .ok (.slice (some ⟨g, 0, none⟩) 32 32) w1 := slice_all_32
            obtain ⟨I, hI⟩ : ∃ I, Sh.sum (Sh.masked key 0x36 ++ ps.flatten) = I := ⟨_, rfl⟩
            have hIl : I.length = 32 := by rw [← hI]; exact sum_len _
            rw [hI] at hs1
            have HS1 := Lib.hid hs1; have HI := Lib.hid hI; have HIL := Lib.hid hIl; have HM := Lib.hid hm; have HE := Lib.hid e
            obtain ⟨w4, hw4⟩ : ∃ q, q = wr := ⟨_, rfl⟩
            subst hw4
            clear hm hp hs1 hI hIl hfl e
            rw [HE.out]
            generalize (Sh.masked key 0x36 ++ ps.flatten).length = nx at *
            go_wp2_with fail
            refine HS1.out.mono ?_
            rintro e w5 ⟨rfl, ho5⟩
            have ho5' := (Only.alloc (w := w4) (.cells #[.slice ma nx mc] 23)).trans ho5
            have HO5 := Lib.hid ho5'
            clear ho5 ho5' HS1
            go_wp2_with (refine wpList_store_row rfl 22 (.tmp 11) (.tmp 57) rfl w5.heap.size (I.map byteV).toArray rfl rfl 22 (ocells 32 []).toArray (heap_alloc_last _ _) (hsize_a32 HIL.out) (by simp [HIL.out, ocells]) (oneCell_bytes _) ?_; rw [World.setRow_alloc_new]; have HV6 := Lib.hid (dig_bytes (Blk.new w5 (I.map byteV) 22) HIL.out); have HO6 := Lib.hid (HO5.out.trans (Only.alloc (.cells (I.map byteV).toArray 22))); have HLT := Lib.hid ((Blk.new w5 (I.map byteV) 22).lt); generalize w5.alloc (.cells (I.map byteV).toArray 22) = w6 at *)
            have hmm := HM.out
            have ho6 := HO6.out
            have hob : BytesAt w6 (fun k => k < w6.heap.size) (.slice (some ⟨g2, 0, none⟩) 64 64) (Sh.masked key 0x5c) := by
              have hb := hmm.outs.keep ho6 (fun x => x)
              exact (hb.bytes64 (masked_len _ _)).mono (fun k hk => by subst hk; exact hb.lt)
            have hp2 := new_two hob (HV6.out.mono (fun k hk => by subst hk; exact HLT.out))
            have hs2 := rSum_any hp2 (fun _ h => h) (by rw [List.flatten_cons, List.flatten_cons, List.flatten_nil, List.append_nil, List.length_append, masked_len, HIL.out]; decide) (by simp)
            rw [List.flatten_cons, List.flatten_cons, List.flatten_nil, List.append_nil] at hs2
            have em : Sh.sum (Sh.masked key 0x5c ++ I) = Sh.mac key ps.flatten := by rw [← HI.out]; rfl
            rw [em] at hs2
            have HML := Lib.hid (mac_len key ps.flatten)
            obtain ⟨M, hM⟩ : ∃ M, Sh.mac key ps.flatten = M := ⟨_, rfl⟩
            rw [hM] at hs2 HML
            have HS2 := Lib.hid hs2; have HMM := Lib.hid hM
            have HR6 := Lib.hid ((hmm.res.keep ho6 (fun x => x)).alloc (.cells #[.slice (some ⟨g2, 0, none⟩) 64 64, .slice (some ⟨w5.heap.size, 0, none⟩) 32 32] 23))
            have HOF := Lib.hid ((hmm.row.only.trans ho6).trans (Only.alloc (.cells #[.slice (some ⟨g2, 0, none⟩) 64 64, .slice (some ⟨w5.heap.size, 0, none⟩) 32 32] 23)))
            clear hmm ho6 hob hp2 hs2 em hM hY
            go_wp2_with (first
              | (go_at_call 51; refine HS2.out.mono ?_; rintro e w7 ⟨rfl, ho7⟩; have HR7 := Lib.hid ((HR6.out.keep ho7 (fun x => x)).heap); have HO7 := Lib.hid (HOF.out.trans ho7); clear ho7)
              | (refine wpList_store_row rfl 22 (.tmp 4) (.tmp 61) rfl w.heap.size (M.map byteV).toArray rfl rfl 22 (ocells 32 []).toArray HR7.out (hsize_a32 HML.out) (by simp [HML.out, ocells]) (oneCell_bytes _) ?_))
            have hfin : (w7.setRow w.heap.size (M.map byteV).toArray).heap[w.heap.size]? = some (.cells (M.map byteV).toArray 22 (0, 0)) := Blk.row (L := ocells 32 []) HR7.out _
            exact bodyPost_ret (v := digV M) (results_cell_row rfl _ _ w.heap.size 22 _ (0, 0) _ rfl hfin Tryd.underlying22 rfl (hsize_a32 HML.out)) rfl ⟨by rw [HMM.out], HO7.out.andThen (Only.setRow _ _) (fun k hk e => by omega)⟩

end Go.Proofs.YtgdnmbchhfbjoaaDoor

namespace Go.Proofs.YtgdnmbchhfbjoaaDoor
open Go.RowKit

theorem rrange_err {w : World} {vs vk vi : Value} {n : Int} (h : n < 0 ∨ 8160 < n) :
    Calls Tryd.prog 46 #[vs, vk, vi, .int .i64 n] w fun e w' => e = .returned (.tuple #[.slice none 0 0, .int .i64 7]) ∧ w = w' := by
  rcases h with h | h
  · go_enter Tryd.func46, Tryd.ntmps46
    go_wp2
    go_ret2
    exact ⟨rfl, rfl⟩
  · have h' : ¬ n < 0 := by omega
    go_enter Tryd.func46, Tryd.ntmps46
    go_wp2
    go_ret2
    exact ⟨rfl, rfl⟩

theorem laid_zeros : Sh.laid (List.replicate 32 0) = Sh.laid [] := by decide +kernel
theorem mac_zeros (m : List UInt8) : Sh.mac (List.replicate 32 0) m = Sh.mac [] m := by
  unfold Sh.mac Sh.masked
  rw [laid_zeros]

theorem make32 (w : World) : (Instr.makeSlice 23 (.int .i64 32) (.int .i64 32)).run Tryd.prog w = .ok (.slice (some ⟨w.heap.size, 0, none⟩) 32 32) (w.alloc (.cells (ocells 32 []).toArray 5)) := by
  have h := run_make_row' (P := Tryd.prog) 23 5 (.int .u8 0) 1 Tryd.underlying23 info_u8 rfl .i64 .i64 32 (by decide) (by decide) w
  have e : madeCells #[.int .u8 0] 32 = (ocells 32 []).toArray := by kernel_rfl
  rw [e] at h
  exact h
theorem made_bytes (w : World) : BytesAt (w.alloc (.cells (ocells 32 []).toArray 5)) (fun k => k = w.heap.size) (.slice (some ⟨w.heap.size, 0, none⟩) 32 32) (List.replicate 32 0) := by
  have := BytesAt.of_block (o := 0) (c := 32) (bs := List.replicate 32 0) (Blk.new w (ocells 32 []) 5).heap (by decide) (fun j x hx => by
    rw [List.getElem?_replicate] at hx
    split at hx
    · cases hx
      rw [Nat.zero_add]
      exact ocells_zero (Nat.zero_le _) (by assumption)
    · cases hx)
  exact this

theorem no_bytes (w : World) (g : Nat) (S : Nat → Prop) : BytesAt w S (.slice (some ⟨g, 0, none⟩) 0 0) [] := .inr ⟨⟨g, 0, none⟩, 0, rfl, Nat.le_refl _, fun h => absurd rfl h, fun j x hx => by simp at hx⟩

/-- What the loop of the document's Derive keeps. -/
structure RDer (w wr : World) (p info : List UInt8) (gp k : Nat) (ov tv : Value) : Prop where
  row : wr.ownsRow 0 5 1 ov (32 * k) ((Sh.tees p info k).map byteV)
  own : ∀ q, ov.ownBlock = some q → w.heap.size ≤ q ∧ q ≠ gp
  last : BytesAt wr (fun b => w.heap.size ≤ b ∧ b < wr.heap.size ∧ ov.ownBlock ≠ some b) tv (Sh.tee p info k)
  prk : Blk wr gp (p.map byteV) 22
  gp : w.heap.size ≤ gp
  only : Only (fun _ => False) w wr

theorem tee_le (p i : List UInt8) (k : Nat) : (Sh.tee p i k).length ≤ 32 := by
  cases k with
  | zero => simp [Sh.tee]
  | succ k => rw [tee_len]; exact Nat.le_refl _

set_option maxRecDepth 100000 in
set_option maxHeartbeats 2000000 in
theorem rDerive_any {w : World} {S : Nat → Prop} {vs vk vi : Value} {salt secret info : List UInt8} {n : Nat} (hs : BytesAt w S vs salt) (hk : BytesAt w S vk secret) (hi : BytesAt w S vi info) (hS : ∀ k, S k → k < w.heap.size) (h1 : salt.length ≤ 137438953472) (h2 : secret.length ≤ 137438953472) (h3 : info.length ≤ 137438953472) (hn : n ≤ 8160) :
    Calls Tryd.prog 46 #[vs, vk, vi, .int .i64 (n : Int)] w fun e w' => ∃ a c, e = .returned (.tuple #[.slice a n c, .int .i64 0]) ∧ BytesAt w' (fun k => w.heap.size ≤ k ∧ k < w'.heap.size) (.slice a n c) (derived salt secret info n) ∧ Only (fun _ => False) w w' := by
  obtain ⟨sa, sc, rfl⟩ := hs.shape
  obtain ⟨ka, kc, rfl⟩ := hk.shape
  obtain ⟨ia, ic, rfl⟩ := hi.shape
  have HSA := Lib.hid hs; have HK := Lib.hid hk; have HI := Lib.hid hi; have HS := Lib.hid hS; have H1 := Lib.hid h1; have H2 := Lib.hid h2; have H3 := Lib.hid h3
  clear hs hk hi hS h1 h2 h3
  have hnb : ¬ (n : Int) < 0 := by omega
  have hnc : ¬ (8160 : Int) < (n : Int) := by omega
  go_enter Tryd.func46, Tryd.ntmps46
  go_upto_if 23 with (fail)
  go_cut [0] (fun s0 wx => ∃ z : List UInt8, BytesAt wx (fun k => k < wx.heap.size) s0 z ∧ (∀ m, Sh.mac z m = Sh.mac salt m) ∧ z.length ≤ 137438953472 ∧ Only (fun _ => False) w wx)
  case first =>
    by_cases h0 : salt.length = 0
    · have hz : ((salt.length : Int) == 0) = true := by simp [h0]
      have e : salt = [] := List.eq_nil_of_length_eq_zero h0
      subst e
      have hmk := make32
      have HB := Lib.hid (made_bytes w)
      have HLT := Lib.hid ((Blk.new w (ocells 32 []) 5).lt)
      have HO : Hid (Only (fun _ => False) w (w.alloc (.cells (ocells 32 []).toArray 5))) := Lib.hid (Only.alloc _)
      clear h0
      generalize (ocells 32 []).toArray = Z at *
      go_wp2_with fail
      go_meet
      exact ⟨List.replicate 32 0, HB.out.mono (fun k hk => by subst hk; exact HLT.out), mac_zeros, by simp, HO.out⟩
    · have hz : ((salt.length : Int) == 0) = false := beq_eq_false_iff_ne.2 (by omega)
      clear h0
      go_wp2_with fail
      go_meet
      exact ⟨salt, HSA.out.mono HS.out, fun _ => rfl, H1.out, Only.refl _ _⟩
  case rest =>
    obtain ⟨z, hz0, hzm, hzl, ho1⟩ := hcut
    obtain ⟨w1, hw1⟩ : ∃ q, q = wc := ⟨_, rfl⟩
    subst hw1
    obtain ⟨za, zc, rfl⟩ := hz0.shape
    have hk1 := HK.out.here ho1 HS.out
    have hp := one_part hk1 (fun _ h => h)
    have hmac := rMac_any (hz0.here (Only.alloc (.cells #[.slice ka secret.length kc] 23)) (fun _ h => h)) hp (fun _ h => h) (by omega) (by have := H2.out; simp; omega) (by simp)
    rw [List.flatten_cons, List.flatten_nil, List.append_nil, hzm] at hmac
    have HMAC := Lib.hid hmac; have HO1 := Lib.hid ho1
    have HPL := Lib.hid (mac_len salt secret)
    obtain ⟨P, hP⟩ : ∃ P, Sh.mac salt secret = P := ⟨_, rfl⟩
    rw [hP] at HMAC HPL
    have HP := Lib.hid hP
    clear hz0 hzm hzl ho1 hk1 hp hmac hP HSA HK
    generalize z.length = zn at *
    go_wp2_with (first
      | (go_at_call 34; refine HMAC.out.mono ?_; rintro e w2 ⟨rfl, ho2⟩; have HO2 := Lib.hid ((HO1.out.trans (Only.alloc _)).trans ho2); clear ho2)
      | (refine wpList_store_row rfl 22 (.tmp 10) (.tmp 28) rfl w2.heap.size (P.map byteV).toArray rfl rfl 22 (ocells 32 []).toArray (heap_alloc_last _ _) (hsize_a32 HPL.out) (by simp [HPL.out, ocells]) (oneCell_bytes _) ?_; rw [World.setRow_alloc_new]; have HP3 := Lib.hid (Blk.new w2 (P.map byteV) 22); have HO3 := Lib.hid (HO2.out.trans (Only.alloc (.cells (P.map byteV).toArray 22))); generalize w2.alloc (.cells (P.map byteV).toArray 22) = w3 at *))
    have hst : RDer w (w3.alloc (.cells #[] 5)) P info w2.heap.size 0 (.slice none 0 0) (.slice (some ⟨w3.heap.size, 0, none⟩) 0 0) := by
      exact ⟨World.ownsRow_nil _ _ _ _, (fun q hq => by cases hq), no_bytes _ _ _, HP3.out.alloc _, HO2.out.size, HO3.out.trans (Only.alloc _)⟩
    have HST := Lib.hid hst
    have hY : ∀ g w1, (Instr.sliceAt 22 (.pointer (some ⟨g, 0, none⟩)) none none none).run Tryd.prog w1 = .ok (.slice (some ⟨g, 0, none⟩) 32 32) w1 := slice_all_32
    clear hst HMAC HO2 HO3 HP3 HO1
    generalize w2.heap.size = gp at *
    go_loopw [11, 12, 13] (fun ov tv iv wr => ∃ (k : Nat), 32 * k < n + 32 ∧ iv = .int .i64 ((k : Int) + 1) ∧ RDer w wr P info gp k ov tv) (fun ov _ _ _ => match ov with | .slice _ m _ => n + 32 - m | _ => 0)
    case atStart => exact ⟨0, by omega, rfl, HST.out⟩
    case round =>
      obtain ⟨k, hk, rfl, hd⟩ := hrel
      obtain ⟨oa, oc, rfl⟩ := row_shape hd.row
      obtain ⟨la, lc, rfl⟩ := hd.last.shape
      by_cases hlt : 32 * k < n
      · have hk255 : k + 1 < 256 := by omega
        have hmac := rMac_any (S := fun b => b < ((wr.alloc (.cells #[byteV (UInt8.ofNat (k + 1))] 5)).alloc (.cells #[.slice la (Sh.tee P info k).length lc, .slice ia info.length ic, .slice (some ⟨wr.heap.size, 0, none⟩) 1 1] 23)).heap.size)
          ((dig_bytes ((hd.prk.alloc (.cells #[byteV (UInt8.ofNat (k + 1))] 5)).alloc (.cells #[.slice la (Sh.tee P info k).length lc, .slice ia info.length ic, .slice (some ⟨wr.heap.size, 0, none⟩) 1 1] 23)) HPL.out).mono (fun b hb => by subst hb; exact ((hd.prk.alloc _).alloc _).lt))
          (three_parts (S := fun b => b < wr.heap.size) (hd.last.mono (fun b hb => hb.2.1)) ((HI.out.only hd.only HS.out (fun _ _ x => x)).mono (fun b hb => Nat.lt_of_lt_of_le (HS.out b hb) hd.only.size)) (fun _ h => h) (UInt8.ofNat (k + 1)))
          (fun _ h => h) (by rw [HPL.out]; decide) (by
            have := H3.out
            have hl := tee_le P info k
            simp
            omega) (by simp)
        have efl : [Sh.tee P info k, info, [UInt8.ofNat (k + 1)]].flatten = Sh.tee P info k ++ info ++ [UInt8.ofNat (k + 1)] := by simp
        rw [efl, show Sh.mac P (Sh.tee P info k ++ info ++ [UInt8.ofNat (k + 1)]) = Sh.tee P info (k + 1) from rfl] at hmac
        have hbv : byteV (UInt8.ofNat (k + 1)) = .int .u8 ((k : Int) + 1) := by
          unfold byteV
          rw [show (UInt8.ofNat (k + 1)).toNat = k + 1 by simp; omega]
          rfl
        rw [hbv] at hmac
        have HMAC := Lib.hid hmac
        have HD := Lib.hid hd
        have HROW := Lib.hid hd.row
        have HTL := Lib.hid (tee_len P info k)
        have hti : ((32 * k : Nat) : Int) < (n : Int) := by omega
        obtain ⟨T, hT⟩ : ∃ T, Sh.tee P info (k + 1) = T := ⟨_, rfl⟩
        have HTT := Lib.hid hT
        rw [hT] at HMAC HTL
        clear hd hmac efl hT hbv
        go_wp2_with fail
        refine HMAC.out.mono ?_
        rintro e w5 ⟨rfl, ho5⟩
        have ho5' := ((Only.alloc (w := wr) (.cells #[.int .u8 ((k : Int) + 1)] 5)).trans (Only.alloc _)).trans ho5
        have HO5 := Lib.hid ho5'
        clear ho5 ho5' HMAC
        go_wp2_with (first
          | (refine wpList_store_row rfl 22 (.tmp 14) (.tmp 43) rfl w5.heap.size (T.map byteV).toArray rfl rfl 22 (ocells 32 []).toArray (heap_alloc_last _ _) (hsize_a32 HTL.out) (by simp [HTL.out, ocells]) (oneCell_bytes _) ?_; rw [World.setRow_alloc_new]; have HT6 := Lib.hid (Blk.new w5 (T.map byteV) 22); have HO6 := Lib.hid (HO5.out.trans (Only.alloc (.cells (T.map byteV).toArray 22))); generalize w5.alloc (.cells (T.map byteV).toArray 22) = w6 at *; have HB := Lib.hid (show (w6.alloc (.cells #[] 5)).ownsRow 0 5 1 (.slice (some ⟨w6.heap.size, 0, none⟩) 0 0) 0 [] from World.ownsRow_made w6 #[] 0 (Nat.zero_le _) (Nat.zero_le _) rfl); have HSRC := Lib.hid (dig_bytes (HT6.out.alloc (.cells #[] 5)) HTL.out))
          | (at_builtin; refine wpList_append_bytes _ rfl _ _ rfl (.slice (some ⟨w6.heap.size, 0, none⟩) 0 0) (.slice (some ⟨w5.heap.size, 0, none⟩) 32 32) 0 [] rfl rfl HB.out HSRC.out (by rw [HTL.out]; decide) ?_; intro a7 c7 w7 hr7 hg7 hat7; have h7 : Row wr w7 (.slice a7 (0 + T.length) c7) ([] ++ T) := Row.app (wr := w6.alloc (.cells #[] 5)) (ov := .slice (some ⟨w6.heap.size, 0, none⟩) 0 0) ⟨HB.out, (fun q hq => by have h1 : w6.heap.size = q := Option.some.inj hq; have h2 := HO6.out.size; omega), HO6.out.trans (Only.alloc _)⟩ (Only.refl _ _) (by simp) hr7 hg7 hat7; rw [Nat.zero_add, List.nil_append] at h7; have H7 := Lib.hid h7; have HROW7 := Lib.hid (ownsRow_keep HROW.out (w' := w7) (fun q hq => h7.only.block q (HROW.out.lt q hq).2 (fun x => x))); have HSRC7 := Lib.hid h7.bytes; clear hr7 hg7 hat7 h7)
          | (at_builtin; refine wpList_append_bytes _ rfl _ _ rfl (.slice oa (32 * k) oc) (.slice a7 T.length c7) (32 * k) ((Sh.tees P info k).map byteV) rfl rfl HROW7.out HSRC7.out (by rw [HTL.out]; omega) ?_; intro a8 c8 w8 hr8 hg8 hat8; have HR8 := Lib.hid hr8; have HG8 := Lib.hid hg8; have HAT8 := Lib.hid hat8; clear hr8 hg8 hat8))
        have hd := HD.out
        have h7 := H7.out
        have hr8 := HR8.out
        have hat8 := HAT8.out
        have ho8 : Only (fun q => (Value.slice oa (32 * k) oc).ownBlock = some q) w7 w8 := (Only.of_grown HG8.out).mono (fun q _ h => h.symm)
        have hz0 := hd.only.size
        have hz7 := h7.only.size
        have hgp := hd.prk.lt
        have e32 : 32 * k + T.length = 32 * (k + 1) := by rw [HTL.out]; omega
        have htl := HTL.out
        rw [e32] at hr8 hat8
        refine ⟨⟨k + 1, by omega, by go_num, ?_⟩, by simp; omega⟩
        rw [e32]
        refine ⟨by rw [show Sh.tees P info (k + 1) = Sh.tees P info k ++ T from by rw [← HTT.out]; rfl, List.map_append]; exact hr8, fun q hq => ?_, ?_, (hd.prk.keep h7.only (fun x => x)).keep ho8 (fun h => (hd.own _ h).2 rfl), hd.gp, (hd.only.trans h7.only).andThen ho8 (fun q hq h => by have := (hd.own q h).1; omega)⟩
        · rcases hat8 with h | h
          · exact hd.own q (h.symm.trans hq)
          · rw [hq] at h
            have h1 : q = w7.heap.size := Option.some.inj h
            exact ⟨by omega, by omega⟩
        · rw [HTT.out]
          have hb := BytesAt.of_row h7.row
          have hlow : ∀ q, (Value.slice a7 T.length c7).ownBlock = some q → wr.heap.size ≤ q ∧ q < w7.heap.size := fun q hq => ⟨h7.own q hq, (h7.row.lt q hq).2⟩
          refine (hb.only ho8 (fun q hq => (hlow q hq).2) (fun q hq h => by have h1 := (HROW.out.lt q h).2; have h2 := (hlow q hq).1; omega)).mono (fun q hq => ⟨by have := (hlow q hq).1; omega, Nat.lt_of_lt_of_le (hlow q hq).2 ho8.size, fun h => ?_⟩)
          have h2 := hlow q hq
          rcases hat8 with h1 | h1
          · have h3 := (HROW.out.lt q (h1.symm.trans h)).2
            omega
          · rw [h] at h1
            have h3 : q = w7.heap.size := Option.some.inj h1
            omega
      · have hsl := slice_h (a := oa) (n := 32 * k) (cap := oc) (m := n) (by have := row_cap hd.row; omega)
        have hb := bytes_pre (k := n) hd.row (tees_len _ _ _) (by omega)
        rw [← HP.out, derived_eq salt secret info n k (by omega)] at hb
        have hb2 : BytesAt wr (fun q => w.heap.size ≤ q ∧ q < wr.heap.size) (.slice oa n oc) (derived salt secret info n) := by
          rcases hb with hb | ⟨ad, c1, e1, h1, h2, h3⟩
          · exact .inl hb
          · obtain ⟨rfl, _, _⟩ := Value.slice.inj e1
            exact .inr ⟨ad, c1, e1, h1, fun hne => ⟨(hd.own ad.block rfl).1, h2 hne⟩, h3⟩
        have HBB := Lib.hid hb2; have HOD := Lib.hid hd.only
        have hti : ¬ ((32 * k : Nat) : Int) < (n : Int) := by omega
        clear hd hb hb2 hY
        go_wp2
        go_ret2
        exact ⟨oa, oc, rfl, HBB.out, HOD.out⟩

end Go.Proofs.YtgdnmbchhfbjoaaDoor
