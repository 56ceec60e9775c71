/- The adding loop of the document's own SHA-256. Conditions: none. -/
import Derived.Test.YtdgaojibfpafnaaDoorSRefL
namespace Go.Proofs.YtdgaojibfpafnaaDoor
open Go.RowKit

set_option maxRecDepth 1000000 in
set_option maxHeartbeats 4000000 in
theorem ref_add (c0 c1 c2 c3 c4 c5 c7 c8 c9 c10 c11 c12 c14 c15 c16 c17 c18 c19 c21 c22 c23 c24 c25 c26 c27 c28 c29 c30 c31 c32 c33 c34 c35 c36 c37 c38 c39 c40 c41 c42 c43 c44 c45 c46 c47 c48 c49 c50 c51 c52 c53 c54 c55 c56 c57 c58 c59 c60 c61 c62 c63 c64 c65 c66 c67 c68 c69 c70 c71 c72 c73 c74 c75 c76 c77 c78 c79 c80 c81 c82 c83 c84 c85 c86 c87 c88 c89 c90 c91 c92 c93 c94 c95 c96 c97 c98 c99 c100 c101 c102 c103 c104 c105 c106 c107 c108 c109 c110 c111 c112 c113 c114 c115 c116 c117 c118 c119 c120 c121 c122 c123 c124 c125 c126 c127 c128 c129 c130 c131 c132 c133 c134 c135 c136 c137 c138 c139 c140 c141 c142 c143 c144 c145 c146 c147 c148 c149 c150 c151 c152 c153 c154 c155 c156 c157 c158 c159 c160 c161 c162 c163 c164 c165 c166 c167 c168 c169 c170 c171 c172 c173 c174 c175 c176 c177 c178 c179 c180 c181 c182 c183 c184 c185 c186 c187 c188 c189 c190 c191 c192 c193 c194 c195 c196 c197 c198 c199 c200 c201 c202 c203 c204 c205 c206 c207 c208 c209 c210 c211 c212 c213 c214 c215 c216 c217 c218 c219 c220 c221 c222 c223 c224 c225 c226 c227 c228 c229 c230 c231 : Value) {w : World} {gh gv : Nat} {s v : Sh.V8} (hh : Blk w gh (scells s) 60) (hv : Blk w gv (scells v) 60) (hne : gv ≠ gh) (Q0 : Exit → Act → World → Prop)
    (hexit : ∀ (u20 u200 u201 u202 u203 u204 u205 u206 u207 u208 u209 u210 u211 u212 : Value) w', Blk w' gh (scells (Sh.add8 s v)) 60 → Only (fun k => k = gh) w w' → Q0 (.exit 12) ⟨List.toArray (c0 :: c1 :: c2 :: c3 :: c4 :: c5 :: .pointer (some ⟨gh, 0, none⟩) :: c7 :: c8 :: c9 :: c10 :: c11 :: c12 :: .pointer (some ⟨gv, 0, none⟩) :: c14 :: c15 :: c16 :: c17 :: c18 :: c19 :: u20 :: c21 :: c22 :: c23 :: c24 :: c25 :: c26 :: c27 :: c28 :: c29 :: c30 :: c31 :: c32 :: c33 :: c34 :: c35 :: c36 :: c37 :: c38 :: c39 :: c40 :: c41 :: c42 :: c43 :: c44 :: c45 :: c46 :: c47 :: c48 :: c49 :: c50 :: c51 :: c52 :: c53 :: c54 :: c55 :: c56 :: c57 :: c58 :: c59 :: c60 :: c61 :: c62 :: c63 :: c64 :: c65 :: c66 :: c67 :: c68 :: c69 :: c70 :: c71 :: c72 :: c73 :: c74 :: c75 :: c76 :: c77 :: c78 :: c79 :: c80 :: c81 :: c82 :: c83 :: c84 :: c85 :: c86 :: c87 :: c88 :: c89 :: c90 :: c91 :: c92 :: c93 :: c94 :: c95 :: c96 :: c97 :: c98 :: c99 :: c100 :: c101 :: c102 :: c103 :: c104 :: c105 :: c106 :: c107 :: c108 :: c109 :: c110 :: c111 :: c112 :: c113 :: c114 :: c115 :: c116 :: c117 :: c118 :: c119 :: c120 :: c121 :: c122 :: c123 :: c124 :: c125 :: c126 :: c127 :: c128 :: c129 :: c130 :: c131 :: c132 :: c133 :: c134 :: c135 :: c136 :: c137 :: c138 :: c139 :: c140 :: c141 :: c142 :: c143 :: c144 :: c145 :: c146 :: c147 :: c148 :: c149 :: c150 :: c151 :: c152 :: c153 :: c154 :: c155 :: c156 :: c157 :: c158 :: c159 :: c160 :: c161 :: c162 :: c163 :: c164 :: c165 :: c166 :: c167 :: c168 :: c169 :: c170 :: c171 :: c172 :: c173 :: c174 :: c175 :: c176 :: c177 :: c178 :: c179 :: c180 :: c181 :: c182 :: c183 :: c184 :: c185 :: c186 :: c187 :: c188 :: c189 :: c190 :: c191 :: c192 :: c193 :: c194 :: c195 :: c196 :: c197 :: c198 :: c199 :: u200 :: u201 :: u202 :: u203 :: u204 :: u205 :: u206 :: u207 :: u208 :: u209 :: u210 :: u211 :: u212 :: c213 :: c214 :: c215 :: c216 :: c217 :: c218 :: c219 :: c220 :: c221 :: c222 :: c223 :: c224 :: c225 :: c226 :: c227 :: c228 :: c229 :: c230 :: c231 :: []), []⟩ w') :
    Code.wp Tryd.prog (Code.loop (rloop 6)) Q0 ⟨List.toArray (c0 :: c1 :: c2 :: c3 :: c4 :: c5 :: .pointer (some ⟨gh, 0, none⟩) :: c7 :: c8 :: c9 :: c10 :: c11 :: c12 :: .pointer (some ⟨gv, 0, none⟩) :: c14 :: c15 :: c16 :: c17 :: c18 :: c19 :: .int .i64 0 :: c21 :: c22 :: c23 :: c24 :: c25 :: c26 :: c27 :: c28 :: c29 :: c30 :: c31 :: c32 :: c33 :: c34 :: c35 :: c36 :: c37 :: c38 :: c39 :: c40 :: c41 :: c42 :: c43 :: c44 :: c45 :: c46 :: c47 :: c48 :: c49 :: c50 :: c51 :: c52 :: c53 :: c54 :: c55 :: c56 :: c57 :: c58 :: c59 :: c60 :: c61 :: c62 :: c63 :: c64 :: c65 :: c66 :: c67 :: c68 :: c69 :: c70 :: c71 :: c72 :: c73 :: c74 :: c75 :: c76 :: c77 :: c78 :: c79 :: c80 :: c81 :: c82 :: c83 :: c84 :: c85 :: c86 :: c87 :: c88 :: c89 :: c90 :: c91 :: c92 :: c93 :: c94 :: c95 :: c96 :: c97 :: c98 :: c99 :: c100 :: c101 :: c102 :: c103 :: c104 :: c105 :: c106 :: c107 :: c108 :: c109 :: c110 :: c111 :: c112 :: c113 :: c114 :: c115 :: c116 :: c117 :: c118 :: c119 :: c120 :: c121 :: c122 :: c123 :: c124 :: c125 :: c126 :: c127 :: c128 :: c129 :: c130 :: c131 :: c132 :: c133 :: c134 :: c135 :: c136 :: c137 :: c138 :: c139 :: c140 :: c141 :: c142 :: c143 :: c144 :: c145 :: c146 :: c147 :: c148 :: c149 :: c150 :: c151 :: c152 :: c153 :: c154 :: c155 :: c156 :: c157 :: c158 :: c159 :: c160 :: c161 :: c162 :: c163 :: c164 :: c165 :: c166 :: c167 :: c168 :: c169 :: c170 :: c171 :: c172 :: c173 :: c174 :: c175 :: c176 :: c177 :: c178 :: c179 :: c180 :: c181 :: c182 :: c183 :: c184 :: c185 :: c186 :: c187 :: c188 :: c189 :: c190 :: c191 :: c192 :: c193 :: c194 :: c195 :: c196 :: c197 :: c198 :: c199 :: c200 :: c201 :: c202 :: c203 :: c204 :: c205 :: c206 :: c207 :: c208 :: c209 :: c210 :: c211 :: c212 :: c213 :: c214 :: c215 :: c216 :: c217 :: c218 :: c219 :: c220 :: c221 :: c222 :: c223 :: c224 :: c225 :: c226 :: c227 :: c228 :: c229 :: c230 :: c231 :: []), []⟩ w := by
  conv => arg 2; arg 1; whnf
  have HH := Lib.hid hh; have HV := Lib.hid hv; have HX := Lib.hid hexit
  clear hh hv hexit
  go_loopw [20] (fun iv wr => ∃ i : Nat, i ≤ 8 ∧ iv = .int .i64 i ∧ Blk wr gh ((part8 s.list v.list i).map wordV) 60 ∧ Only (fun k => k = gh) w wr) (fun iv _ => 8 - (intOf iv).toNat)
  case atStart => exact ⟨0, Nat.zero_le _, rfl, HH.out, Only.refl _ _⟩
  case round =>
    obtain ⟨i, hi, rfl, hb, ho⟩ := hrel
    by_cases hlt : i < 8
    · have hp : (part8 s.list v.list i).length = 8 := part8_len (show s.list.length = v.list.length from rfl) i
      have ch : wr.cell? ⟨gh, i, none⟩ = some (.int .u32 (s.list.getD i 0)) := by
        rw [hb.cell, List.getElem?_map, part8_get (xs := s.list) (ys := v.list) rfl hlt]; rfl
      have cv : wr.cell? ⟨gv, i, none⟩ = some (.int .u32 (v.list.getD i 0)) := by
        rw [(HV.out.keep ho hne).cell]
        have hl : i < v.list.length := hlt
        simp [scells, hl, wordV]
      have cf : wr.drew.frozen? ⟨gh, i, none⟩ = false := hb.frozen _
      have hset : Blk (wr.drew.setCell ⟨gh, i, none⟩ (.int .u32 (Sh.low (s.list.getD i 0 + v.list.getD i 0)))) gh ((part8 s.list v.list (i + 1)).map wordV) 60 := by
        have := hb.drew.set i (wordV (Sh.low (s.list.getD i 0 + v.list.getD i 0)))
        rw [← List.map_set, part8_set (xs := s.list) (ys := v.list) rfl hlt] at this
        exact this
      have hos : Only (fun k => k = gh) w (wr.drew.setCell ⟨gh, i, none⟩ (.int .u32 (Sh.low (s.list.getD i 0 + v.list.getD i 0)))) :=
        (ho.trans (Only.drew.mono (fun _ _ x => x.elim))).trans (Only.setCell ⟨gh, i, none⟩ _)
      have HSET := Lib.hid hset; have HOS := Lib.hid hos
      have pz : 0 ≤ (i : Int) := by omega
      have mz : (i : Int) < 8 := by omega
      clear hset hos hb ho hp
      unfold Sh.low at HSET HOS
      generalize s.list.getD i 0 = x at *
      generalize v.list.getD i 0 = y at *
      go_wp2
      go_still_tail 9, (by kernel_rfl)
      change wpList _ _ _ _ _ wr.drew
      have ch' : wr.drew.cell? ⟨gh, i, none⟩ = some (.int .u32 x) := ch
      clear ch cv
      generalize wr.drew = w5 at *
      go_wp2
      go_roundw
      case rel => exact ⟨i + 1, by omega, by go_num, HSET.out, HOS.out⟩
      case measure => simp [intOf]; omega
    · obtain rfl : i = 8 := by omega
      rw [part8_all] at hb
      have HB := Lib.hid hb; have HO := Lib.hid ho
      clear hb ho
      go_wp2
      exact HX.out _ _ _ _ _ _ _ _ _ _ _ _ _ _ wr HB.out HO.out

end Go.Proofs.YtdgaojibfpafnaaDoor
