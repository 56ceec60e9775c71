/- The last loop of the document's own SHA-256: the bytes of its state. Conditions: none. -/
import Derived.Test.YtdgaojibfpafnaaDoorSRefL
namespace Go.Proofs.YtdgaojibfpafnaaDoor
open Go.RowKit

set_option maxRecDepth 1000000 in
set_option maxHeartbeats 4000000 in
theorem ref_out (c0 c1 c2 c3 c4 c5 c7 c8 c9 c10 c11 c12 c13 c14 c15 c16 c17 c18 c19 c20 c23 c24 c25 c26 c27 c28 c29 c30 c31 c32 c33 c34 c35 c36 c37 c38 c39 c40 c41 c42 c43 c44 c45 c46 c47 c48 c49 c50 c51 c52 c53 c54 c55 c56 c57 c58 c59 c60 c61 c62 c63 c64 c65 c66 c67 c68 c69 c70 c71 c72 c73 c74 c75 c76 c77 c78 c79 c80 c81 c82 c83 c84 c85 c86 c87 c88 c89 c90 c91 c92 c93 c94 c95 c96 c97 c98 c99 c100 c101 c102 c103 c104 c105 c106 c107 c108 c109 c110 c111 c112 c113 c114 c115 c116 c117 c118 c119 c120 c121 c122 c123 c124 c125 c126 c127 c128 c129 c130 c131 c132 c133 c134 c135 c136 c137 c138 c139 c140 c141 c142 c143 c144 c145 c146 c147 c148 c149 c150 c151 c152 c153 c154 c155 c156 c157 c158 c159 c160 c161 c162 c163 c164 c165 c166 c167 c168 c169 c170 c171 c172 c173 c174 c175 c176 c177 c178 c179 c180 c181 c182 c183 c184 c185 c186 c187 c188 c189 c190 c191 c192 c193 c194 c195 c196 c197 c198 c199 c200 c201 c202 c203 c204 c205 c206 c207 c208 c209 c210 c211 c212 c213 c214 c215 c216 c217 c218 c219 c220 c221 c222 c223 c224 c225 c226 c227 c228 c229 c230 c231 : Value) {w : World} {gh go : Nat} {s : Sh.V8} (hh : Blk w gh (scells s) 60) (ho : Blk w go (ocells 32 []) 26) (hne : gh ≠ go) (Q0 : Exit → Act → World → Prop)
    (hexit : ∀ (u22 u214 u215 u216 u217 u218 u219 u220 u221 u222 u223 u224 u225 u226 u227 u228 u229 u230 : Value) w', Blk w' go (ocells 32 (Sh.out s)) 26 → Only (fun k => k = go) w w' → Q0 (.exit 14) ⟨List.toArray (c0 :: c1 :: c2 :: c3 :: c4 :: c5 :: .pointer (some ⟨gh, 0, none⟩) :: c7 :: c8 :: c9 :: c10 :: c11 :: c12 :: c13 :: c14 :: c15 :: c16 :: c17 :: c18 :: c19 :: c20 :: .pointer (some ⟨go, 0, none⟩) :: u22 :: c23 :: c24 :: c25 :: c26 :: c27 :: c28 :: c29 :: c30 :: c31 :: c32 :: c33 :: c34 :: c35 :: c36 :: c37 :: c38 :: c39 :: c40 :: c41 :: c42 :: c43 :: c44 :: c45 :: c46 :: c47 :: c48 :: c49 :: c50 :: c51 :: c52 :: c53 :: c54 :: c55 :: c56 :: c57 :: c58 :: c59 :: c60 :: c61 :: c62 :: c63 :: c64 :: c65 :: c66 :: c67 :: c68 :: c69 :: c70 :: c71 :: c72 :: c73 :: c74 :: c75 :: c76 :: c77 :: c78 :: c79 :: c80 :: c81 :: c82 :: c83 :: c84 :: c85 :: c86 :: c87 :: c88 :: c89 :: c90 :: c91 :: c92 :: c93 :: c94 :: c95 :: c96 :: c97 :: c98 :: c99 :: c100 :: c101 :: c102 :: c103 :: c104 :: c105 :: c106 :: c107 :: c108 :: c109 :: c110 :: c111 :: c112 :: c113 :: c114 :: c115 :: c116 :: c117 :: c118 :: c119 :: c120 :: c121 :: c122 :: c123 :: c124 :: c125 :: c126 :: c127 :: c128 :: c129 :: c130 :: c131 :: c132 :: c133 :: c134 :: c135 :: c136 :: c137 :: c138 :: c139 :: c140 :: c141 :: c142 :: c143 :: c144 :: c145 :: c146 :: c147 :: c148 :: c149 :: c150 :: c151 :: c152 :: c153 :: c154 :: c155 :: c156 :: c157 :: c158 :: c159 :: c160 :: c161 :: c162 :: c163 :: c164 :: c165 :: c166 :: c167 :: c168 :: c169 :: c170 :: c171 :: c172 :: c173 :: c174 :: c175 :: c176 :: c177 :: c178 :: c179 :: c180 :: c181 :: c182 :: c183 :: c184 :: c185 :: c186 :: c187 :: c188 :: c189 :: c190 :: c191 :: c192 :: c193 :: c194 :: c195 :: c196 :: c197 :: c198 :: c199 :: c200 :: c201 :: c202 :: c203 :: c204 :: c205 :: c206 :: c207 :: c208 :: c209 :: c210 :: c211 :: c212 :: c213 :: u214 :: u215 :: u216 :: u217 :: u218 :: u219 :: u220 :: u221 :: u222 :: u223 :: u224 :: u225 :: u226 :: u227 :: u228 :: u229 :: u230 :: c231 :: []), []⟩ w') :
    Code.wp Tryd.prog (Code.loop (rloop 7)) Q0 ⟨List.toArray (c0 :: c1 :: c2 :: c3 :: c4 :: c5 :: .pointer (some ⟨gh, 0, none⟩) :: c7 :: c8 :: c9 :: c10 :: c11 :: c12 :: c13 :: c14 :: c15 :: c16 :: c17 :: c18 :: c19 :: c20 :: .pointer (some ⟨go, 0, none⟩) :: .int .i64 0 :: c23 :: c24 :: c25 :: c26 :: c27 :: c28 :: c29 :: c30 :: c31 :: c32 :: c33 :: c34 :: c35 :: c36 :: c37 :: c38 :: c39 :: c40 :: c41 :: c42 :: c43 :: c44 :: c45 :: c46 :: c47 :: c48 :: c49 :: c50 :: c51 :: c52 :: c53 :: c54 :: c55 :: c56 :: c57 :: c58 :: c59 :: c60 :: c61 :: c62 :: c63 :: c64 :: c65 :: c66 :: c67 :: c68 :: c69 :: c70 :: c71 :: c72 :: c73 :: c74 :: c75 :: c76 :: c77 :: c78 :: c79 :: c80 :: c81 :: c82 :: c83 :: c84 :: c85 :: c86 :: c87 :: c88 :: c89 :: c90 :: c91 :: c92 :: c93 :: c94 :: c95 :: c96 :: c97 :: c98 :: c99 :: c100 :: c101 :: c102 :: c103 :: c104 :: c105 :: c106 :: c107 :: c108 :: c109 :: c110 :: c111 :: c112 :: c113 :: c114 :: c115 :: c116 :: c117 :: c118 :: c119 :: c120 :: c121 :: c122 :: c123 :: c124 :: c125 :: c126 :: c127 :: c128 :: c129 :: c130 :: c131 :: c132 :: c133 :: c134 :: c135 :: c136 :: c137 :: c138 :: c139 :: c140 :: c141 :: c142 :: c143 :: c144 :: c145 :: c146 :: c147 :: c148 :: c149 :: c150 :: c151 :: c152 :: c153 :: c154 :: c155 :: c156 :: c157 :: c158 :: c159 :: c160 :: c161 :: c162 :: c163 :: c164 :: c165 :: c166 :: c167 :: c168 :: c169 :: c170 :: c171 :: c172 :: c173 :: c174 :: c175 :: c176 :: c177 :: c178 :: c179 :: c180 :: c181 :: c182 :: c183 :: c184 :: c185 :: c186 :: c187 :: c188 :: c189 :: c190 :: c191 :: c192 :: c193 :: c194 :: c195 :: c196 :: c197 :: c198 :: c199 :: c200 :: c201 :: c202 :: c203 :: c204 :: c205 :: c206 :: c207 :: c208 :: c209 :: c210 :: c211 :: c212 :: c213 :: c214 :: c215 :: c216 :: c217 :: c218 :: c219 :: c220 :: c221 :: c222 :: c223 :: c224 :: c225 :: c226 :: c227 :: c228 :: c229 :: c230 :: c231 :: []), []⟩ w := by
  conv => arg 2; arg 1; whnf
  have HH := Lib.hid hh; have HO := Lib.hid ho; have HX := Lib.hid hexit
  clear hh ho hexit
  go_loopw [22] (fun iv wr => ∃ i : Nat, i ≤ 32 ∧ iv = .int .i64 i ∧ Blk wr go (ocells 32 ((Sh.out s).take i)) 26 ∧ Only (fun k => k = go) w wr) (fun iv _ => 32 - (intOf iv).toNat)
  case atStart => exact ⟨0, Nat.zero_le _, rfl, HO.out, Only.refl _ _⟩
  case round =>
    obtain ⟨i, hi, rfl, hrow, ho⟩ := hrel
    by_cases hlt : i < 32
    · have hc : wr.cell? ⟨gh, i / 4, none⟩ = some (.int .u32 (s.list.getD (i / 4) 0)) := by
        rw [(HH.out.keep ho hne).cell]
        have : i / 4 < s.list.length := by simp [Sh.V8.list]; omega
        simp [scells, this, wordV]
      have hf := hrow.frozen i
      have hlen : ((Sh.out s).take i).length = i := by simp [out_len]; omega
      have hz : wr.cell? ⟨go, i, none⟩ = some (.int .u8 0) := by rw [hrow.cell]; exact ocells_zero (by omega) hlt
      obtain ⟨x, hx⟩ : ∃ x, s.list.getD (i / 4) 0 = x := ⟨_, rfl⟩
      rw [hx] at hc
      have HST : Hid (Blk (wr.setCell ⟨go, i, none⟩ (.int .u8 (x / 2 ^ (24 - 8 * (i % 4)) % 256))) go (ocells 32 ((Sh.out s).take (i + 1))) 26) := by
        have := hrow.set i (byteV (Sh.byteAt s i))
        have e := ocells_set (n := 32) ((Sh.out s).take i) (Sh.byteAt s i) (by omega)
        rw [hlen] at e
        rw [e] at this
        have e2 : (Sh.out s).take (i + 1) = (Sh.out s).take i ++ [Sh.byteAt s i] := by
          rw [List.take_succ_eq_append_getElem (by rw [out_len]; exact hlt)]
          simp [Sh.out]
        rw [← e2] at this
        have e3 : byteV (Sh.byteAt s i) = .int .u8 (x / 2 ^ (24 - 8 * (i % 4)) % 256) := by
          rw [← hx]
          unfold byteV Sh.byteAt
          rw [u8_low]
        rwa [e3] at this
      have HOS : Hid (∀ v, Only (fun k => k = go) w (wr.setCell ⟨go, i, none⟩ v)) := fun v => ho.trans (Only.setCell ⟨go, i, none⟩ _)
      have k1 : IntKind.u64.wrap ((i : Int) % 4) = (i : Int) % 4 := Int.emod_eq_of_lt (by omega) (by have : (i : Int) % 4 < 4 := Int.emod_lt_of_pos _ (by decide); exact Int.lt_trans this (by decide))
      have k2 : IntKind.u64.wrap (8 * ((i : Int) % 4)) = 8 * ((i : Int) % 4) := Int.emod_eq_of_lt (by omega) (by have : (i : Int) % 4 < 4 := Int.emod_lt_of_pos _ (by decide); exact Int.lt_trans (show 8 * ((i : Int) % 4) < 32 by omega) (by decide))
      have k3 : IntKind.u64.wrap (24 - 8 * ((i : Int) % 4)) = 24 - 8 * ((i : Int) % 4) := Int.emod_eq_of_lt (by omega) (Int.lt_trans (show 24 - 8 * ((i : Int) % 4) < 32 by omega) (by decide))
      clear hrow ho hx hlen
      go_wp2
      refine ⟨⟨i + 1, by omega, by go_num, HST.out, HOS.out _⟩, ?_⟩
      simp [intOf]; omega
    · have e32 : (Sh.out s).take i = Sh.out s := List.take_of_length_le (by rw [out_len]; omega)
      rw [e32] at hrow
      have HROW := Lib.hid hrow; have HON := Lib.hid ho
      clear hrow ho e32
      go_wp2
      exact HX.out _ _ _ _ _ _ _ _ _ _ _ _ _ _ _ _ _ _ wr HROW.out HON.out

end Go.Proofs.YtdgaojibfpafnaaDoor
