/- The schedule's loop of the document's own SHA-256. Conditions: a block's bytes lie below 2^40. -/
import Derived.Test.YtdgaojibfpafnaaDoorSRefWord
namespace Go.Proofs.YtdgaojibfpafnaaDoor
open Go.RowKit

/-- The words of a block's schedule, by what each of them is. -/
structure Sched (blk : List UInt8) (W : List Int) : Prop where
  len : ∀ t, t ≤ 64 → (W.take t).length = t
  low : ∀ t, t < 16 → W.take (t + 1) = W.take t ++ [((partN (fun q => blk.getD (4 * t + q) 0) 4 : Nat) : Int)]
  high : ∀ t, 16 ≤ t → t < 64 → W.take (t + 1) = W.take t ++ [Sh.next (W.take t)]
  all : W.take 64 = W
theorem sched_of (blk : List UInt8) : Sched blk (Sh.sched blk) :=
  ⟨sched_take_len blk, sched_low_succ blk, sched_high_succ blk, List.take_of_length_le (by rw [sched_len]; omega)⟩
/-- A block of 64 bytes lies in a row. -/
structure Fits (at_ n : Nat) : Prop where
  hat : at_ + 64 ≤ n
  hn : n ≤ 1099511627776
theorem turn_same (x n : Int) (hn : n ∈ Sh.turns) (w : World) : Calls Tryd.prog 34 #[.int .u32 x, .int .u64 n] w fun e w' => e = .returned (.int .u32 (Sh.rot x n)) ∧ w' = w :=
  (turn_any x n hn w).mono fun _ _ h => ⟨h.1, h.2.symm⟩
theorem wcells_again {ws : List Int} {t : Nat} (h : ws.length ≤ t) (ht : t < 64) (hl : ws.length ≤ 64) (b : Nat → UInt8) : (wcells ws).set t (wordV ((partN b 0 : Nat) : Int)) = wcells ws := by
  have h0 := wcells_zero (ws := ws) (j := t) h ht
  apply List.ext_getElem?
  intro i
  by_cases e : t = i
  · subst e
    rw [List.getElem?_set_self (by rw [wcells_length _ hl]; omega), h0]
    rfl
  · rw [List.getElem?_set_ne e]

set_option maxRecDepth 1000000 in
set_option maxHeartbeats 4000000 in
theorem ref_sched (c0 c1 c2 c3 c5 c6 c10 c11 c12 c13 c14 c15 c16 c17 c18 c19 c20 c21 c22 c23 c24 c25 c26 c27 c28 c29 c30 c31 c32 c33 c34 c35 c36 c37 c38 c39 c40 c41 c42 c43 c44 c45 c46 c47 c48 c49 c50 c51 c52 c53 c54 c55 c56 c57 c58 c59 c60 c61 c62 c63 c64 c65 c66 c67 c68 c69 c70 c71 c72 c73 c74 c75 c76 c77 c78 c79 c80 c81 c82 c83 c84 c85 c86 c87 c88 c89 c90 c91 c92 c93 c94 c95 c96 c97 c98 c99 c100 c101 c102 c103 c104 c105 c106 c107 c108 c109 c110 c111 c112 c113 c114 c115 c116 c117 c118 c119 c120 c121 c122 c123 c124 c125 c126 c127 c128 c129 c130 c131 c132 c133 c134 c135 c136 c137 c138 c139 c140 c141 c142 c143 c144 c145 c146 c147 c148 c149 c150 c151 c152 c153 c154 c155 c156 c157 c158 c159 c160 c161 c162 c163 c164 c165 c166 c167 c168 c169 c170 c171 c172 c173 c174 c175 c176 c177 c178 c179 c180 c181 c182 c183 c184 c185 c186 c187 c188 c189 c190 c191 c192 c193 c194 c195 c196 c197 c198 c199 c200 c201 c202 c203 c204 c205 c206 c207 c208 c209 c210 c211 c212 c213 c214 c215 c216 c217 c218 c219 c220 c221 c222 c223 c224 c225 c226 c227 c228 c229 c230 c231 : Value) {w : World} {g gw n cap at_ : Nat} {blk : List UInt8} {W : List Int} (hw : Blk w gw (wcells []) 59) (hsc : Sched blk W) (hfit : Fits at_ n) (hcb : ∀ q, q < 64 → ∀ w', Only (fun k => k = gw) w w' → w'.cell? ⟨g, at_ + q, none⟩ = some (.int .u8 ((blk.getD q 0).toNat : Int))) (Q0 : Exit → Act → World → Prop)
    (hexit : ∀ (u9 u10 u11 u12 u46 u47 u48 u49 u50 u51 u52 u53 u54 u55 u56 u57 u58 u59 u60 u61 u62 u63 u64 u65 u66 u67 u68 u69 u70 u71 u72 u73 u74 u75 u76 u77 u78 u79 u80 u81 u82 u83 u84 u85 u86 u87 u88 u89 u90 u91 u92 u93 u94 u95 u96 u97 u98 u99 u100 u101 u102 u103 u104 u105 u106 u107 u108 u109 : Value) w', Blk w' gw (wcells W) 59 → Only (fun k => k = gw) w w' → Q0 (.exit 4) ⟨List.toArray (c0 :: c1 :: c2 :: c3 :: .slice (some ⟨g, 0, none⟩) n cap :: c5 :: c6 :: .int .i64 (at_ : Int) :: .pointer (some ⟨gw, 0, none⟩) :: u9 :: u10 :: u11 :: u12 :: c13 :: c14 :: c15 :: c16 :: c17 :: c18 :: c19 :: c20 :: c21 :: c22 :: c23 :: c24 :: c25 :: c26 :: c27 :: c28 :: c29 :: c30 :: c31 :: c32 :: c33 :: c34 :: c35 :: c36 :: c37 :: c38 :: c39 :: c40 :: c41 :: c42 :: c43 :: c44 :: c45 :: u46 :: u47 :: u48 :: u49 :: u50 :: u51 :: u52 :: u53 :: u54 :: u55 :: u56 :: u57 :: u58 :: u59 :: u60 :: u61 :: u62 :: u63 :: u64 :: u65 :: u66 :: u67 :: u68 :: u69 :: u70 :: u71 :: u72 :: u73 :: u74 :: u75 :: u76 :: u77 :: u78 :: u79 :: u80 :: u81 :: u82 :: u83 :: u84 :: u85 :: u86 :: u87 :: u88 :: u89 :: u90 :: u91 :: u92 :: u93 :: u94 :: u95 :: u96 :: u97 :: u98 :: u99 :: u100 :: u101 :: u102 :: u103 :: u104 :: u105 :: u106 :: u107 :: u108 :: u109 :: c110 :: c111 :: c112 :: c113 :: c114 :: c115 :: c116 :: c117 :: c118 :: c119 :: c120 :: c121 :: c122 :: c123 :: c124 :: c125 :: c126 :: c127 :: c128 :: c129 :: c130 :: c131 :: c132 :: c133 :: c134 :: c135 :: c136 :: c137 :: c138 :: c139 :: c140 :: c141 :: c142 :: c143 :: c144 :: c145 :: c146 :: c147 :: c148 :: c149 :: c150 :: c151 :: c152 :: c153 :: c154 :: c155 :: c156 :: c157 :: c158 :: c159 :: c160 :: c161 :: c162 :: c163 :: c164 :: c165 :: c166 :: c167 :: c168 :: c169 :: c170 :: c171 :: c172 :: c173 :: c174 :: c175 :: c176 :: c177 :: c178 :: c179 :: c180 :: c181 :: c182 :: c183 :: c184 :: c185 :: c186 :: c187 :: c188 :: c189 :: c190 :: c191 :: c192 :: c193 :: c194 :: c195 :: c196 :: c197 :: c198 :: c199 :: c200 :: c201 :: c202 :: c203 :: c204 :: c205 :: c206 :: c207 :: c208 :: c209 :: c210 :: c211 :: c212 :: c213 :: c214 :: c215 :: c216 :: c217 :: c218 :: c219 :: c220 :: c221 :: c222 :: c223 :: c224 :: c225 :: c226 :: c227 :: c228 :: c229 :: c230 :: c231 :: []), []⟩ w') :
    Code.wp Tryd.prog (Code.loop (rloop 2)) Q0 ⟨List.toArray (c0 :: c1 :: c2 :: c3 :: .slice (some ⟨g, 0, none⟩) n cap :: c5 :: c6 :: .int .i64 (at_ : Int) :: .pointer (some ⟨gw, 0, none⟩) :: .int .i64 0 :: c10 :: c11 :: c12 :: c13 :: c14 :: c15 :: c16 :: c17 :: c18 :: c19 :: c20 :: c21 :: c22 :: c23 :: c24 :: c25 :: c26 :: c27 :: c28 :: c29 :: c30 :: c31 :: c32 :: c33 :: c34 :: c35 :: c36 :: c37 :: c38 :: c39 :: c40 :: c41 :: c42 :: c43 :: c44 :: c45 :: c46 :: c47 :: c48 :: c49 :: c50 :: c51 :: c52 :: c53 :: c54 :: c55 :: c56 :: c57 :: c58 :: c59 :: c60 :: c61 :: c62 :: c63 :: c64 :: c65 :: c66 :: c67 :: c68 :: c69 :: c70 :: c71 :: c72 :: c73 :: c74 :: c75 :: c76 :: c77 :: c78 :: c79 :: c80 :: c81 :: c82 :: c83 :: c84 :: c85 :: c86 :: c87 :: c88 :: c89 :: c90 :: c91 :: c92 :: c93 :: c94 :: c95 :: c96 :: c97 :: c98 :: c99 :: c100 :: c101 :: c102 :: c103 :: c104 :: c105 :: c106 :: c107 :: c108 :: c109 :: c110 :: c111 :: c112 :: c113 :: c114 :: c115 :: c116 :: c117 :: c118 :: c119 :: c120 :: c121 :: c122 :: c123 :: c124 :: c125 :: c126 :: c127 :: c128 :: c129 :: c130 :: c131 :: c132 :: c133 :: c134 :: c135 :: c136 :: c137 :: c138 :: c139 :: c140 :: c141 :: c142 :: c143 :: c144 :: c145 :: c146 :: c147 :: c148 :: c149 :: c150 :: c151 :: c152 :: c153 :: c154 :: c155 :: c156 :: c157 :: c158 :: c159 :: c160 :: c161 :: c162 :: c163 :: c164 :: c165 :: c166 :: c167 :: c168 :: c169 :: c170 :: c171 :: c172 :: c173 :: c174 :: c175 :: c176 :: c177 :: c178 :: c179 :: c180 :: c181 :: c182 :: c183 :: c184 :: c185 :: c186 :: c187 :: c188 :: c189 :: c190 :: c191 :: c192 :: c193 :: c194 :: c195 :: c196 :: c197 :: c198 :: c199 :: c200 :: c201 :: c202 :: c203 :: c204 :: c205 :: c206 :: c207 :: c208 :: c209 :: c210 :: c211 :: c212 :: c213 :: c214 :: c215 :: c216 :: c217 :: c218 :: c219 :: c220 :: c221 :: c222 :: c223 :: c224 :: c225 :: c226 :: c227 :: c228 :: c229 :: c230 :: c231 :: []), []⟩ w := by
  conv => arg 2; arg 1; whnf
  have HW := Lib.hid hw; have HX := Lib.hid hexit; have HCB := Lib.hid hcb;
  clear hw hexit hcb
  go_loopw [9] (fun tv wr => ∃ t : Nat, t ≤ 64 ∧ tv = .int .i64 t ∧ Blk wr gw (wcells (W.take t)) 59 ∧ Only (fun k => k = gw) w wr) (fun tv _ => 64 - (intOf tv).toNat)
  case atStart => exact ⟨0, Nat.zero_le _, rfl, HW.out, Only.refl _ _⟩
  case round =>
    obtain ⟨t, ht, rfl, hw, ho⟩ := hrel
    have hlen := hsc.len t ht
    by_cases ht64 : t < 64
    · by_cases ht16 : t < 16
      · obtain ⟨b, hb⟩ : ∃ b : Nat → UInt8, (fun q => blk.getD (4 * t + q) 0) = b := ⟨_, rfl⟩
        have hsu := hsc.low t ht16
        rw [hb] at hsu
        have HSU := Lib.hid hsu
        have hlw : (wcells (W.take t)).length = 64 := wcells_length _ (by omega)
        have hw4 : Blk wr gw ((wcells (W.take t)).set t (wordV ((partN b 0 : Nat) : Int))) 59 := by
          rw [wcells_again (by omega) ht64 (by omega)]; exact hw
        have hcb4 : ∀ q, q < 4 → ∀ w', Only (fun k => k = gw) wr w' → w'.cell? ⟨g, at_ + (4 * t + q), none⟩ = some (.int .u8 ((b q).toNat : Int)) := fun q hq w' ho' => by
          rw [← hb]; exact HCB.out (4 * t + q) (by omega) w' (ho.trans ho')
        have HW4 := Lib.hid hw4; have HLW := Lib.hid hlw; have HCB4 := Lib.hid hcb4; have HO := Lib.hid ho; have HLEN := Lib.hid hlen
        clear hw ho hb hlen hw4 hlw hcb4 hsu
        go_wp2
        refine ref_word _ _ _ _ _ _ _ _ _ _ _ _ _ _ _ _ _ _ _ _ _ _ _ _ _ _ _ _ _ _ _ _ _ _ _ _ _ _ _ _ _ _ _ _ _ _ _ _ _ _ _ _ _ _ _ _ _ _ _ _ _ _ _ _ _ _ _ _ _ _ _ _ _ _ _ _ _ _ _ _ _ _ _ _ _ _ _ _ _ _ _ _ _ _ _ _ _ _ _ _ _ _ _ _ _ _ _ _ _ _ _ _ _ _ _ _ _ _ _ _ _ _ _ _ _ _ _ _ _ _ _ _ _ _ _ _ _ _ _ _ _ _ _ _ _ _ _ _ _ _ _ _ _ _ _ _ _ _ _ _ _ _ _ _ _ _ _ _ _ _ _ _ _ _ _ _ _ _ _ _ _ _ _ _ _ _ _ _ _ _ _ _ _ _ _ _ _ _ _ _ _ _ _ _ _ _ _ _ _ _ _ _ _ _ _ _ _ _ _ _ _ _ _ _ _ _ _  (w := wr) (b := b) (ws := wcells (W.take t))  HW4.out HLW.out ht16 hfit.hat hfit.hn HCB4.out _ ?_
        intro u10 u52 u53 u54 u55 u56 u57 u58 u59 u60 u61 u62 u63 u64 u65 u66 u67 u68 u69 u70 u71 u72 w' hb' ho'
        have hnx : Blk w' gw (wcells (W.take (t + 1))) 59 := by
          have e := wcells_set (W.take t) ((partN b 4 : Nat) : Int) (by rw [HLEN.out]; omega)
          rw [HLEN.out] at e
          rw [HSU.out, ← e]
          exact hb'
        have HNX := Lib.hid hnx; have HON := Lib.hid (HO.out.trans ho')
        clear hb' ho' hnx
        go_wp2
        exact ⟨⟨t + 1, by omega, by go_num, HNX.out, HON.out⟩, by simp [intOf]; omega⟩
      · have HSU := Lib.hid (hsc.high t (by omega) ht64)
        obtain ⟨ws, hws⟩ : ∃ ws, W.take t = ws := ⟨_, rfl⟩
        rw [hws] at hw hlen HSU
        have c15 : wr.cell? ⟨gw, t - 15, none⟩ = some (.int .u32 (ws.getD (t - 15) 0)) := by rw [hw.cell]; exact wcells_get (by omega)
        have c2 : wr.cell? ⟨gw, t - 2, none⟩ = some (.int .u32 (ws.getD (t - 2) 0)) := by rw [hw.cell]; exact wcells_get (by omega)
        have c7 : wr.cell? ⟨gw, t - 7, none⟩ = some (.int .u32 (ws.getD (t - 7) 0)) := by rw [hw.cell]; exact wcells_get (by omega)
        have c16 : wr.cell? ⟨gw, t - 16, none⟩ = some (.int .u32 (ws.getD (t - 16) 0)) := by rw [hw.cell]; exact wcells_get (by omega)
        have hf := hw.frozen t
        have hz : wr.cell? ⟨gw, t, none⟩ = some (.int .u32 0) := by
          rw [hw.cell]; exact wcells_zero (by omega) ht64
        have hnx : Blk (wr.drew.setCell ⟨gw, t, none⟩ (.int .u32 (Sh.next ws))) gw (wcells (W.take (t + 1))) 59 := by
          have := hw.drew.set t (wordV (Sh.next ws))
          have e := wcells_set ws (Sh.next ws) (by omega)
          rw [hlen] at e
          rw [e, ← HSU.out] at this
          exact this
        have HNX := Lib.hid hnx
        have HON : Hid (∀ v, Only (fun k => k = gw) w (wr.drew.setCell ⟨gw, t, none⟩ v)) := fun v =>
          (ho.trans (Only.drew.mono (fun _ _ x => x.elim))).trans (Only.setCell ⟨gw, t, none⟩ _)
        have HEQ : Hid (Sh.next ws = Sh.low (Sh.sg1 (ws.getD (t - 2) 0) + ws.getD (t - 7) 0 + Sh.sg0 (ws.getD (t - 15) 0) + ws.getD (t - 16) 0)) := by
          rw [← hlen]; exact rfl
        have k15 : IntKind.i64.wrap ((t : Int) - 15) = (t : Int) - 15 := IntWalk.i64_in _ (by omega)
        have k2 : IntKind.i64.wrap ((t : Int) - 2) = (t : Int) - 2 := IntWalk.i64_in _ (by omega)
        have k7 : IntKind.i64.wrap ((t : Int) - 7) = (t : Int) - 7 := IntWalk.i64_in _ (by omega)
        have k16 : IntKind.i64.wrap ((t : Int) - 16) = (t : Int) - 16 := IntWalk.i64_in _ (by omega)
        have n15 : ((t : Int) - 15).toNat = t - 15 := by omega
        have n2 : ((t : Int) - 2).toNat = t - 2 := by omega
        have n7 : ((t : Int) - 7).toNat = t - 7 := by omega
        have n16 : ((t : Int) - 16).toNat = t - 16 := by omega
        have p15 : 0 ≤ (t : Int) - 15 := by omega
        have p2 : 0 ≤ (t : Int) - 2 := by omega
        have p7 : 0 ≤ (t : Int) - 7 := by omega
        have r7 : 7 ≤ (t : Int) := by omega
        have r16 : 16 ≤ (t : Int) := by omega
        have p16 : 0 ≤ (t : Int) - 16 := by omega
        have m15 : (t : Int) - 15 < 64 := by omega
        have m2 : (t : Int) - 2 < 64 := by omega
        have m7 : (t : Int) - 7 < 64 := by omega
        have m16 : (t : Int) - 16 < 64 := by omega
        have pz : 0 ≤ (t : Int) := by omega
        have mz : (t : Int) < 64 := by omega
        clear hw ho hlen hnx hws HSU
        generalize Sh.next ws = nx at *
        generalize (ws.getD (t - 15) 0) = x15 at *
        generalize (ws.getD (t - 2) 0) = x2 at *
        generalize (ws.getD (t - 7) 0) = x7 at *
        generalize (ws.getD (t - 16) 0) = x16 at *
        go_wp2
        refine wp_region_still_tail 29 (by kernel_rfl) (by kernel_rfl) ?_
        simp only [List.take_succ_cons, List.take_zero, List.drop_succ_cons, List.drop_zero]
        repeat (first | still_step | still_call (turn_same _ _ (by decide) _))
        refine wpStill_nil ?_
        change wpList _ _ _ _ _ wr.drew
        have hf' : wr.drew.frozen? ⟨gw, t, none⟩ = false := hf
        have hz' : wr.drew.cell? ⟨gw, t, none⟩ = some (.int .u32 0) := hz
        clear c15 c2 c7 c16 hf hz
        generalize wr.drew = w8 at *
        go_wp2
        refine ⟨⟨t + 1, by omega, by go_num, ?_, HON.out _⟩, by simp [intOf]; omega⟩
        have h := HNX.out
        rw [HEQ.out] at h
        exact h
    · obtain rfl : t = 64 := by omega
      rw [hsc.all] at hw
      have HNX := Lib.hid hw; have HON := Lib.hid ho
      clear hw ho hlen
      go_wp2
      exact HX.out _ _ _ _ _ _ _ _ _ _ _ _ _ _ _ _ _ _ _ _ _ _ _ _ _ _ _ _ _ _ _ _ _ _ _ _ _ _ _ _ _ _ _ _ _ _ _ _ _ _ _ _ _ _ _ _ _ _ _ _ _ _ _ _ _ _ _ _ wr HNX.out HON.out

end Go.Proofs.YtdgaojibfpafnaaDoor
