/- The innermost loop of the document's own SHA-256: a word of four bytes. Conditions: a block's bytes lie below 2^40. -/
import Derived.Test.YtdgaojibfpafnaaDoorSRefL
namespace Go.Proofs.YtdgaojibfpafnaaDoor
open Go.RowKit

set_option maxRecDepth 1000000 in
set_option maxHeartbeats 4000000 in
theorem ref_word (c0 c1 c2 c3 c5 c6 c11 c12 c13 c14 c15 c16 c17 c18 c19 c20 c21 c22 c23 c24 c25 c26 c27 c28 c29 c30 c31 c32 c33 c34 c35 c36 c37 c38 c39 c40 c41 c42 c43 c44 c45 c46 c47 c48 c49 c50 c51 c52 c53 c54 c55 c56 c57 c58 c59 c60 c61 c62 c63 c64 c65 c66 c67 c68 c69 c70 c71 c72 c73 c74 c75 c76 c77 c78 c79 c80 c81 c82 c83 c84 c85 c86 c87 c88 c89 c90 c91 c92 c93 c94 c95 c96 c97 c98 c99 c100 c101 c102 c103 c104 c105 c106 c107 c108 c109 c110 c111 c112 c113 c114 c115 c116 c117 c118 c119 c120 c121 c122 c123 c124 c125 c126 c127 c128 c129 c130 c131 c132 c133 c134 c135 c136 c137 c138 c139 c140 c141 c142 c143 c144 c145 c146 c147 c148 c149 c150 c151 c152 c153 c154 c155 c156 c157 c158 c159 c160 c161 c162 c163 c164 c165 c166 c167 c168 c169 c170 c171 c172 c173 c174 c175 c176 c177 c178 c179 c180 c181 c182 c183 c184 c185 c186 c187 c188 c189 c190 c191 c192 c193 c194 c195 c196 c197 c198 c199 c200 c201 c202 c203 c204 c205 c206 c207 c208 c209 c210 c211 c212 c213 c214 c215 c216 c217 c218 c219 c220 c221 c222 c223 c224 c225 c226 c227 c228 c229 c230 c231 : Value) {w : World} {g gw n cap at_ t : Nat} {b : Nat → UInt8} {ws : List Value} (hw : Blk w gw (ws.set t (wordV ((partN b 0 : Nat) : Int))) 59) (hl : ws.length = 64) (ht : t < 16) (hat : at_ + 64 ≤ n) (hn : n ≤ 1099511627776) (hcb : ∀ q, q < 4 → ∀ w', Only (fun k => k = gw) w w' → w'.cell? ⟨g, at_ + (4 * t + q), none⟩ = some (.int .u8 ((b q).toNat : Int))) (Q0 : Exit → Act → World → Prop)
    (hexit : ∀ (u10 u52 u53 u54 u55 u56 u57 u58 u59 u60 u61 u62 u63 u64 u65 u66 u67 u68 u69 u70 u71 u72 : Value) w', Blk w' gw (ws.set t (wordV ((partN b 4 : Nat) : Int))) 59 → Only (fun k => k = gw) w w' → Q0 (.exit 6) ⟨List.toArray (c0 :: c1 :: c2 :: c3 :: .slice (some ⟨g, 0, none⟩) n cap :: c5 :: c6 :: .int .i64 (at_ : Int) :: .pointer (some ⟨gw, 0, none⟩) :: .int .i64 (t : Int) :: u10 :: c11 :: c12 :: c13 :: c14 :: c15 :: c16 :: c17 :: c18 :: c19 :: c20 :: c21 :: c22 :: c23 :: c24 :: c25 :: c26 :: c27 :: c28 :: c29 :: c30 :: c31 :: c32 :: c33 :: c34 :: c35 :: c36 :: c37 :: c38 :: c39 :: c40 :: c41 :: c42 :: c43 :: c44 :: c45 :: c46 :: c47 :: c48 :: c49 :: c50 :: c51 :: u52 :: u53 :: u54 :: u55 :: u56 :: u57 :: u58 :: u59 :: u60 :: u61 :: u62 :: u63 :: u64 :: u65 :: u66 :: u67 :: u68 :: u69 :: u70 :: u71 :: u72 :: c73 :: c74 :: c75 :: c76 :: c77 :: c78 :: c79 :: c80 :: c81 :: c82 :: c83 :: c84 :: c85 :: c86 :: c87 :: c88 :: c89 :: c90 :: c91 :: c92 :: c93 :: c94 :: c95 :: c96 :: c97 :: c98 :: c99 :: c100 :: c101 :: c102 :: c103 :: c104 :: c105 :: c106 :: c107 :: c108 :: c109 :: c110 :: c111 :: c112 :: c113 :: c114 :: c115 :: c116 :: c117 :: c118 :: c119 :: c120 :: c121 :: c122 :: c123 :: c124 :: c125 :: c126 :: c127 :: c128 :: c129 :: c130 :: c131 :: c132 :: c133 :: c134 :: c135 :: c136 :: c137 :: c138 :: c139 :: c140 :: c141 :: c142 :: c143 :: c144 :: c145 :: c146 :: c147 :: c148 :: c149 :: c150 :: c151 :: c152 :: c153 :: c154 :: c155 :: c156 :: c157 :: c158 :: c159 :: c160 :: c161 :: c162 :: c163 :: c164 :: c165 :: c166 :: c167 :: c168 :: c169 :: c170 :: c171 :: c172 :: c173 :: c174 :: c175 :: c176 :: c177 :: c178 :: c179 :: c180 :: c181 :: c182 :: c183 :: c184 :: c185 :: c186 :: c187 :: c188 :: c189 :: c190 :: c191 :: c192 :: c193 :: c194 :: c195 :: c196 :: c197 :: c198 :: c199 :: c200 :: c201 :: c202 :: c203 :: c204 :: c205 :: c206 :: c207 :: c208 :: c209 :: c210 :: c211 :: c212 :: c213 :: c214 :: c215 :: c216 :: c217 :: c218 :: c219 :: c220 :: c221 :: c222 :: c223 :: c224 :: c225 :: c226 :: c227 :: c228 :: c229 :: c230 :: c231 :: []), []⟩ w') :
    Code.wp Tryd.prog (Code.loop (rloop 3)) Q0 ⟨List.toArray (c0 :: c1 :: c2 :: c3 :: .slice (some ⟨g, 0, none⟩) n cap :: c5 :: c6 :: .int .i64 (at_ : Int) :: .pointer (some ⟨gw, 0, none⟩) :: .int .i64 (t : Int) :: .int .i64 0 :: c11 :: c12 :: c13 :: c14 :: c15 :: c16 :: c17 :: c18 :: c19 :: c20 :: c21 :: c22 :: c23 :: c24 :: c25 :: c26 :: c27 :: c28 :: c29 :: c30 :: c31 :: c32 :: c33 :: c34 :: c35 :: c36 :: c37 :: c38 :: c39 :: c40 :: c41 :: c42 :: c43 :: c44 :: c45 :: c46 :: c47 :: c48 :: c49 :: c50 :: c51 :: c52 :: c53 :: c54 :: c55 :: c56 :: c57 :: c58 :: c59 :: c60 :: c61 :: c62 :: c63 :: c64 :: c65 :: c66 :: c67 :: c68 :: c69 :: c70 :: c71 :: c72 :: c73 :: c74 :: c75 :: c76 :: c77 :: c78 :: c79 :: c80 :: c81 :: c82 :: c83 :: c84 :: c85 :: c86 :: c87 :: c88 :: c89 :: c90 :: c91 :: c92 :: c93 :: c94 :: c95 :: c96 :: c97 :: c98 :: c99 :: c100 :: c101 :: c102 :: c103 :: c104 :: c105 :: c106 :: c107 :: c108 :: c109 :: c110 :: c111 :: c112 :: c113 :: c114 :: c115 :: c116 :: c117 :: c118 :: c119 :: c120 :: c121 :: c122 :: c123 :: c124 :: c125 :: c126 :: c127 :: c128 :: c129 :: c130 :: c131 :: c132 :: c133 :: c134 :: c135 :: c136 :: c137 :: c138 :: c139 :: c140 :: c141 :: c142 :: c143 :: c144 :: c145 :: c146 :: c147 :: c148 :: c149 :: c150 :: c151 :: c152 :: c153 :: c154 :: c155 :: c156 :: c157 :: c158 :: c159 :: c160 :: c161 :: c162 :: c163 :: c164 :: c165 :: c166 :: c167 :: c168 :: c169 :: c170 :: c171 :: c172 :: c173 :: c174 :: c175 :: c176 :: c177 :: c178 :: c179 :: c180 :: c181 :: c182 :: c183 :: c184 :: c185 :: c186 :: c187 :: c188 :: c189 :: c190 :: c191 :: c192 :: c193 :: c194 :: c195 :: c196 :: c197 :: c198 :: c199 :: c200 :: c201 :: c202 :: c203 :: c204 :: c205 :: c206 :: c207 :: c208 :: c209 :: c210 :: c211 :: c212 :: c213 :: c214 :: c215 :: c216 :: c217 :: c218 :: c219 :: c220 :: c221 :: c222 :: c223 :: c224 :: c225 :: c226 :: c227 :: c228 :: c229 :: c230 :: c231 :: []), []⟩ w := by
  conv => arg 2; arg 1; whnf
  have HW := Lib.hid hw; have HX := Lib.hid hexit; have HCB := Lib.hid hcb
  clear hw hexit hcb
  go_loopw [10] (fun qv wr => ∃ q : Nat, q ≤ 4 ∧ qv = .int .i64 q ∧ Blk wr gw (ws.set t (wordV ((partN b q : Nat) : Int))) 59 ∧ Only (fun k => k = gw) w wr) (fun qv _ => 4 - (intOf qv).toNat)
  case atStart => exact ⟨0, Nat.zero_le _, rfl, HW.out, Only.refl _ _⟩
  case round =>
    obtain ⟨q, hq, rfl, hw, ho⟩ := hrel
    by_cases hq4 : q < 4
    · have cb1 := HCB.out q hq4 wr ho
      have cw : wr.cell? ⟨gw, t, none⟩ = some (.int .u32 ((partN b q : Nat) : Int)) := by
        rw [hw.cell, List.getElem?_set_self (by omega)]; rfl
      have cf : wr.drew.frozen? ⟨gw, t, none⟩ = false := hw.frozen t
      have hpl := partN_lt b q
      have hp24 : partN b q < 16777216 := Nat.lt_of_lt_of_le hpl (by
        have : 256 ^ q ≤ 256 ^ 3 := Nat.pow_le_pow_right (by decide) (by omega)
        exact this)
      have HNX : Hid (Blk (wr.drew.setCell ⟨gw, t, none⟩ (.int .u32 ((partN b (q + 1) : Nat) : Int))) gw (ws.set t (wordV ((partN b (q + 1) : Nat) : Int))) 59) := by
        have := hw.drew.set t (wordV ((partN b (q + 1) : Nat) : Int))
        rw [List.set_set] at this
        exact Lib.hid this
      have HON : Hid (∀ v, Only (fun k => k = gw) w (wr.drew.setCell ⟨gw, t, none⟩ v)) := fun v =>
        (ho.trans (Only.drew.mono (fun _ _ x => x.elim))).trans (Only.setCell ⟨gw, t, none⟩ _)
      have HOR := Lib.hid (or_byte (partN b q) (b q) hp24)
      have HPS : Hid (partN b (q + 1) = partN b q * 256 + (b q).toNat) := rfl
      have hbq := (b q).toNat_lt
      have k1 : IntKind.i64.wrap (4 * (t : Int)) = 4 * (t : Int) := IntWalk.i64_in _ (by omega)
      have k2 : IntKind.i64.wrap ((at_ : Int) + 4 * (t : Int)) = (at_ : Int) + 4 * (t : Int) := IntWalk.i64_in _ (by omega)
      have k3 : IntKind.i64.wrap ((at_ : Int) + 4 * (t : Int) + (q : Int)) = (at_ : Int) + 4 * (t : Int) + (q : Int) := IntWalk.i64_in _ (by omega)
      have k4 : ((at_ : Int) + 4 * (t : Int) + (q : Int)).toNat = at_ + (4 * t + q) := by omega
      have p1 : 0 ≤ (at_ : Int) + 4 * (t : Int) + (q : Int) := by omega
      have p2 : (at_ : Int) + 4 * (t : Int) + (q : Int) < (n : Int) := by omega
      have pz : 0 ≤ (t : Int) := by omega
      have mz : (t : Int) < 64 := by omega
      have ki : IntKind.u32.wrap (((partN b q : Nat) : Int) * 256) = ((partN b q : Nat) : Int) * 256 := Int.emod_eq_of_lt (by omega) (show ((partN b q : Nat) : Int) * 256 < 4294967296 by omega)
      clear hw ho hpl hp24 hl hn hat
      generalize partN b q = x at *
      generalize b q = y at *
      have HK1 := Lib.hid k1; have HK2 := Lib.hid k2; have HK3 := Lib.hid k3; have HK4 := Lib.hid k4; have HP1 := Lib.hid p1; have HP2 := Lib.hid p2; have HPZ := Lib.hid pz; have HMZ := Lib.hid mz; have HKI := Lib.hid ki
      clear k1 k2 k3 k4 p1 p2 pz mz ki
      go_wp2
      have k1 := HK1.out; have k2 := HK2.out; have k3 := HK3.out; have k4 := HK4.out; have p1 := HP1.out; have p2 := HP2.out; have pz := HPZ.out; have mz := HMZ.out; have ki := HKI.out
      clear HK1 HK2 HK3 HK4 HP1 HP2 HPZ HMZ HKI
      go_still_tail 17, (by kernel_rfl)
      change wpList _ _ _ _ _ wr.drew
      have cw' : wr.drew.cell? ⟨gw, t, none⟩ = some (.int .u32 (x : Int)) := cw
      clear cw cb1
      generalize wr.drew = w8 at *
      go_wp2
      refine ⟨⟨q + 1, by omega, by go_num, ?_, HON.out _⟩, by simp [intOf]; omega⟩
      rw [HOR.out, ← HPS.out]
      exact HNX.out
    · obtain rfl : q = 4 := by omega
      have HNX := Lib.hid hw; have HON := Lib.hid ho
      clear hw ho
      go_wp2
      exact HX.out _ _ _ _ _ _ _ _ _ _ _ _ _ _ _ _ _ _ _ _ _ _ wr HNX.out HON.out

end Go.Proofs.YtdgaojibfpafnaaDoor
