/- The loop of the document's own SHA-256 that moves the state's words. Conditions: none. -/
import Derived.Test.YtdgaojibfpafnaaDoorSRefL
namespace Go.Proofs.YtdgaojibfpafnaaDoor
open Go.RowKit

/-- The state while its words move up by one: down to place j they have moved. -/
def shifted (s : Sh.V8) (j : Nat) : List Int := s.list.take (j + 1) ++ (s.list.drop j).take (7 - j)
theorem shifted_set (s : Sh.V8) : ∀ j, j < 7 → (shifted s (j + 1)).set (j + 1) (s.list.getD j 0) = shifted s j
  | 0, _ => rfl
  | 1, _ => rfl
  | 2, _ => rfl
  | 3, _ => rfl
  | 4, _ => rfl
  | 5, _ => rfl
  | 6, _ => rfl
  | n + 7, h => by omega
theorem shifted_get (s : Sh.V8) : ∀ j, j < 7 → (shifted s (j + 1))[j]? = some (s.list.getD j 0)
  | 0, _ => rfl
  | 1, _ => rfl
  | 2, _ => rfl
  | 3, _ => rfl
  | 4, _ => rfl
  | 5, _ => rfl
  | 6, _ => rfl
  | n + 7, h => by omega
theorem shifted_top (s : Sh.V8) : shifted s 7 = s.list := rfl
theorem shifted_end (s : Sh.V8) : shifted s 0 = [s.a, s.a, s.b, s.c, s.d, s.e, s.f, s.g] := rfl

set_option maxRecDepth 1000000 in
set_option maxHeartbeats 4000000 in
theorem ref_shift (c0 c1 c2 c3 c4 c5 c6 c7 c8 c9 c10 c11 c12 c14 c15 c16 c17 c18 c20 c21 c22 c23 c24 c25 c26 c27 c28 c29 c30 c31 c32 c33 c34 c35 c36 c37 c38 c39 c40 c41 c42 c43 c44 c45 c46 c47 c48 c49 c50 c51 c52 c53 c54 c55 c56 c57 c58 c59 c60 c61 c62 c63 c64 c65 c66 c67 c68 c69 c70 c71 c72 c73 c74 c75 c76 c77 c78 c79 c80 c81 c82 c83 c84 c85 c86 c87 c88 c89 c90 c91 c92 c93 c94 c95 c96 c97 c98 c99 c100 c101 c102 c103 c104 c105 c106 c107 c108 c109 c110 c111 c112 c113 c114 c115 c116 c117 c118 c119 c120 c121 c122 c123 c124 c125 c126 c127 c128 c129 c130 c131 c132 c133 c134 c135 c136 c137 c138 c139 c140 c141 c142 c143 c144 c145 c146 c147 c148 c149 c150 c151 c152 c153 c154 c155 c156 c157 c158 c159 c160 c161 c162 c163 c164 c165 c166 c167 c168 c169 c170 c171 c172 c173 c174 c175 c176 c177 c178 c179 c180 c181 c182 c183 c184 c185 c186 c187 c188 c189 c190 c191 c192 c193 c194 c195 c196 c197 c198 c199 c200 c201 c202 c203 c204 c205 c206 c207 c208 c209 c210 c211 c212 c213 c214 c215 c216 c217 c218 c219 c220 c221 c222 c223 c224 c225 c226 c227 c228 c229 c230 c231 : Value) {w : World} {gv : Nat} {s : Sh.V8} (hv : Blk w gv (scells s) 60) (Q0 : Exit → Act → World → Prop)
    (hexit : ∀ (u19 u181 u182 u183 u184 u185 u186 u187 u188 u189 u190 : Value) w', Blk w' gv ([s.a, s.a, s.b, s.c, s.d, s.e, s.f, s.g].map wordV) 60 → Only (fun k => k = gv) w w' → Q0 (.exit 10) ⟨List.toArray (c0 :: c1 :: c2 :: c3 :: c4 :: c5 :: c6 :: c7 :: c8 :: c9 :: c10 :: c11 :: c12 :: .pointer (some ⟨gv, 0, none⟩) :: c14 :: c15 :: c16 :: c17 :: c18 :: u19 :: c20 :: c21 :: c22 :: c23 :: c24 :: c25 :: c26 :: c27 :: c28 :: c29 :: c30 :: c31 :: c32 :: c33 :: c34 :: c35 :: c36 :: c37 :: c38 :: c39 :: c40 :: c41 :: c42 :: c43 :: c44 :: c45 :: c46 :: c47 :: c48 :: c49 :: c50 :: c51 :: c52 :: c53 :: c54 :: c55 :: c56 :: c57 :: c58 :: c59 :: c60 :: c61 :: c62 :: c63 :: c64 :: c65 :: c66 :: c67 :: c68 :: c69 :: c70 :: c71 :: c72 :: c73 :: c74 :: c75 :: c76 :: c77 :: c78 :: c79 :: c80 :: c81 :: c82 :: c83 :: c84 :: c85 :: c86 :: c87 :: c88 :: c89 :: c90 :: c91 :: c92 :: c93 :: c94 :: c95 :: c96 :: c97 :: c98 :: c99 :: c100 :: c101 :: c102 :: c103 :: c104 :: c105 :: c106 :: c107 :: c108 :: c109 :: c110 :: c111 :: c112 :: c113 :: c114 :: c115 :: c116 :: c117 :: c118 :: c119 :: c120 :: c121 :: c122 :: c123 :: c124 :: c125 :: c126 :: c127 :: c128 :: c129 :: c130 :: c131 :: c132 :: c133 :: c134 :: c135 :: c136 :: c137 :: c138 :: c139 :: c140 :: c141 :: c142 :: c143 :: c144 :: c145 :: c146 :: c147 :: c148 :: c149 :: c150 :: c151 :: c152 :: c153 :: c154 :: c155 :: c156 :: c157 :: c158 :: c159 :: c160 :: c161 :: c162 :: c163 :: c164 :: c165 :: c166 :: c167 :: c168 :: c169 :: c170 :: c171 :: c172 :: c173 :: c174 :: c175 :: c176 :: c177 :: c178 :: c179 :: c180 :: u181 :: u182 :: u183 :: u184 :: u185 :: u186 :: u187 :: u188 :: u189 :: u190 :: c191 :: c192 :: c193 :: c194 :: c195 :: c196 :: c197 :: c198 :: c199 :: c200 :: c201 :: c202 :: c203 :: c204 :: c205 :: c206 :: c207 :: c208 :: c209 :: c210 :: c211 :: c212 :: c213 :: c214 :: c215 :: c216 :: c217 :: c218 :: c219 :: c220 :: c221 :: c222 :: c223 :: c224 :: c225 :: c226 :: c227 :: c228 :: c229 :: c230 :: c231 :: []), []⟩ w') :
    Code.wp Tryd.prog (Code.loop (rloop 5)) Q0 ⟨List.toArray (c0 :: c1 :: c2 :: c3 :: c4 :: c5 :: c6 :: c7 :: c8 :: c9 :: c10 :: c11 :: c12 :: .pointer (some ⟨gv, 0, none⟩) :: c14 :: c15 :: c16 :: c17 :: c18 :: .int .i64 7 :: c20 :: c21 :: c22 :: c23 :: c24 :: c25 :: c26 :: c27 :: c28 :: c29 :: c30 :: c31 :: c32 :: c33 :: c34 :: c35 :: c36 :: c37 :: c38 :: c39 :: c40 :: c41 :: c42 :: c43 :: c44 :: c45 :: c46 :: c47 :: c48 :: c49 :: c50 :: c51 :: c52 :: c53 :: c54 :: c55 :: c56 :: c57 :: c58 :: c59 :: c60 :: c61 :: c62 :: c63 :: c64 :: c65 :: c66 :: c67 :: c68 :: c69 :: c70 :: c71 :: c72 :: c73 :: c74 :: c75 :: c76 :: c77 :: c78 :: c79 :: c80 :: c81 :: c82 :: c83 :: c84 :: c85 :: c86 :: c87 :: c88 :: c89 :: c90 :: c91 :: c92 :: c93 :: c94 :: c95 :: c96 :: c97 :: c98 :: c99 :: c100 :: c101 :: c102 :: c103 :: c104 :: c105 :: c106 :: c107 :: c108 :: c109 :: c110 :: c111 :: c112 :: c113 :: c114 :: c115 :: c116 :: c117 :: c118 :: c119 :: c120 :: c121 :: c122 :: c123 :: c124 :: c125 :: c126 :: c127 :: c128 :: c129 :: c130 :: c131 :: c132 :: c133 :: c134 :: c135 :: c136 :: c137 :: c138 :: c139 :: c140 :: c141 :: c142 :: c143 :: c144 :: c145 :: c146 :: c147 :: c148 :: c149 :: c150 :: c151 :: c152 :: c153 :: c154 :: c155 :: c156 :: c157 :: c158 :: c159 :: c160 :: c161 :: c162 :: c163 :: c164 :: c165 :: c166 :: c167 :: c168 :: c169 :: c170 :: c171 :: c172 :: c173 :: c174 :: c175 :: c176 :: c177 :: c178 :: c179 :: c180 :: c181 :: c182 :: c183 :: c184 :: c185 :: c186 :: c187 :: c188 :: c189 :: c190 :: c191 :: c192 :: c193 :: c194 :: c195 :: c196 :: c197 :: c198 :: c199 :: c200 :: c201 :: c202 :: c203 :: c204 :: c205 :: c206 :: c207 :: c208 :: c209 :: c210 :: c211 :: c212 :: c213 :: c214 :: c215 :: c216 :: c217 :: c218 :: c219 :: c220 :: c221 :: c222 :: c223 :: c224 :: c225 :: c226 :: c227 :: c228 :: c229 :: c230 :: c231 :: []), []⟩ w := by
  conv => arg 2; arg 1; whnf
  have HV := Lib.hid hv; have HX := Lib.hid hexit
  clear hv hexit
  go_loopw [19] (fun iv wr => ∃ j : Nat, j ≤ 7 ∧ iv = .int .i64 j ∧ Blk wr gv ((shifted s j).map wordV) 60 ∧ Only (fun k => k = gv) w wr) (fun iv _ => (intOf iv).toNat)
  case atStart => exact ⟨7, Nat.le_refl _, rfl, HV.out, Only.refl _ _⟩
  case round =>
    obtain ⟨i, hi, rfl, hb, ho⟩ := hrel
    by_cases hlt : 0 < i
    · obtain ⟨j, rfl⟩ : ∃ j, i = j + 1 := ⟨i - 1, by omega⟩
      have ch : wr.cell? ⟨gv, j, none⟩ = some (.int .u32 (s.list.getD j 0)) := by
        rw [hb.cell, List.getElem?_map, shifted_get s j (by omega)]; rfl
      have cf : wr.frozen? ⟨gv, j + 1, none⟩ = false := hb.frozen _
      have hset : Blk (wr.setCell ⟨gv, j + 1, none⟩ (.int .u32 (s.list.getD j 0))) gv ((shifted s j).map wordV) 60 := by
        have := hb.set (j + 1) (wordV (s.list.getD j 0))
        rw [← List.map_set, shifted_set s j (by omega)] at this
        exact this
      have hcx : ∃ y, wr.cell? ⟨gv, j + 1, none⟩ = some (.int .u32 y) := by
        have hl : j + 1 < (shifted s (j + 1)).length := by simp [shifted, Sh.V8.list]; omega
        exact ⟨(shifted s (j + 1))[j + 1], by rw [hb.cell, List.getElem?_map, List.getElem?_eq_getElem hl]; rfl⟩
      obtain ⟨y, cy⟩ := hcx
      have hos : Only (fun k => k = gv) w (wr.setCell ⟨gv, j + 1, none⟩ (.int .u32 (s.list.getD j 0))) := ho.trans (Only.setCell ⟨gv, j + 1, none⟩ _)
      have HSET := Lib.hid hset; have HOS := Lib.hid hos
      have k1 : IntKind.i64.wrap (((j + 1 : Nat) : Int) - 1) = (j : Int) := by rw [IntWalk.i64_in _ (by omega)]; omega
      have k2 : ((j + 1 : Nat) : Int).toNat = j + 1 := by omega
      have pz : 0 < ((j + 1 : Nat) : Int) := by omega
      have mz : ((j + 1 : Nat) : Int) < 8 := by omega
      have pj : 0 ≤ (j : Int) := by omega
      have mj : (j : Int) < 8 := by omega
      clear hset hos hb ho
      generalize s.list.getD j 0 = x at *
      go_wp2
      exact ⟨⟨j, by omega, by go_num, HSET.out, HOS.out⟩, by simp [intOf]⟩
    · obtain rfl : i = 0 := by omega
      rw [shifted_end] at hb
      have HB := Lib.hid hb; have HO := Lib.hid ho
      clear hb ho
      go_wp2
      exact HX.out _ _ _ _ _ _ _ _ _ _ _ wr HB.out HO.out

end Go.Proofs.YtdgaojibfpafnaaDoor
