/- The rounds' loop of the document's own SHA-256. Conditions: none. -/
import Derived.Test.YtdgaojibfpafnaaDoorSRefSched
import Derived.Test.YtdgaojibfpafnaaDoorSRefShift
namespace Go.Proofs.YtdgaojibfpafnaaDoor
open Go.RowKit

/-- The states of a block's rounds, by what each of them is. -/
structure Rounds (K W : List Int) (s : Sh.V8) (z : Nat → Sh.V8) : Prop where
  start : z 0 = s
  next : ∀ t, z (t + 1) = Sh.rnd (K.getD t 0) (W.getD t 0) (z t)
  klen : K.length = 64
  wlen : W.length = 64
theorem rounds_of (blk : List UInt8) (s : Sh.V8) : Rounds Sh.ks (Sh.sched blk) s (Sh.rnds Sh.ks (Sh.sched blk) s) :=
  ⟨rfl, fun _ => rfl, rfl, sched_len blk⟩
theorem rnd_flat (k w a b c d e f g h : Int) : Sh.rnd k w ⟨a, b, c, d, e, f, g, h⟩ = ⟨(h + Sh.bs1 e + Sh.ch e f g + k + w + (Sh.bs0 a + Sh.maj a b c)) % 4294967296, a, b, c, (d + (h + Sh.bs1 e + Sh.ch e f g + k + w)) % 4294967296, e, f, g⟩ := by
  have h1 : Sh.low (Sh.t1 k w ⟨a, b, c, d, e, f, g, h⟩ + Sh.t2 ⟨a, b, c, d, e, f, g, h⟩) = (h + Sh.bs1 e + Sh.ch e f g + k + w + (Sh.bs0 a + Sh.maj a b c)) % 4294967296 := by
    unfold Sh.t1 Sh.t2 Sh.low
    exact (Int.add_emod _ _ _).symm
  have h2 : Sh.low (d + Sh.t1 k w ⟨a, b, c, d, e, f, g, h⟩) = (d + (h + Sh.bs1 e + Sh.ch e f g + k + w)) % 4294967296 := by
    unfold Sh.t1 Sh.low
    exact Int.add_emod_emod _ _ _
  unfold Sh.rnd
  rw [h1, h2]
theorem map_word_get {W : List Int} {t : Nat} (h : t < W.length) : (W.map wordV)[t]? = some (.int .u32 (W.getD t 0)) := by
  simp [h, wordV]

set_option maxRecDepth 1000000 in
set_option maxHeartbeats 4000000 in
theorem ref_rnds (c0 c1 c2 c4 c5 c6 c7 c9 c10 c11 c12 c15 c16 c17 c18 c19 c20 c21 c22 c23 c24 c25 c26 c27 c28 c29 c30 c31 c32 c33 c34 c35 c36 c37 c38 c39 c40 c41 c42 c43 c44 c45 c46 c47 c48 c49 c50 c51 c52 c53 c54 c55 c56 c57 c58 c59 c60 c61 c62 c63 c64 c65 c66 c67 c68 c69 c70 c71 c72 c73 c74 c75 c76 c77 c78 c79 c80 c81 c82 c83 c84 c85 c86 c87 c88 c89 c90 c91 c92 c93 c94 c95 c96 c97 c98 c99 c100 c101 c102 c103 c104 c105 c106 c107 c108 c109 c110 c111 c112 c113 c114 c115 c116 c117 c118 c119 c120 c121 c122 c123 c124 c125 c126 c127 c128 c129 c130 c131 c132 c133 c134 c135 c136 c137 c138 c139 c140 c141 c142 c143 c144 c145 c146 c147 c148 c149 c150 c151 c152 c153 c154 c155 c156 c157 c158 c159 c160 c161 c162 c163 c164 c165 c166 c167 c168 c169 c170 c171 c172 c173 c174 c175 c176 c177 c178 c179 c180 c181 c182 c183 c184 c185 c186 c187 c188 c189 c190 c191 c192 c193 c194 c195 c196 c197 c198 c199 c200 c201 c202 c203 c204 c205 c206 c207 c208 c209 c210 c211 c212 c213 c214 c215 c216 c217 c218 c219 c220 c221 c222 c223 c224 c225 c226 c227 c228 c229 c230 c231 : Value) {w : World} {gk gw gv : Nat} {K W : List Int} {s : Sh.V8} {z : Nat → Sh.V8} (hz : Rounds K W s z) (hk : Blk w gk (K.map wordV) 59) (hw : Blk w gw (W.map wordV) 59) (hv : Blk w gv (scells s) 60) (hnk : gk ≠ gv) (hnw : gw ≠ gv) (Q0 : Exit → Act → World → Prop)
    (hexit : ∀ (u14 u15 u16 u17 u18 u19 u111 u112 u113 u114 u115 u116 u117 u118 u119 u120 u121 u122 u123 u124 u125 u126 u127 u128 u129 u130 u131 u132 u133 u134 u135 u136 u137 u138 u139 u140 u141 u142 u143 u144 u145 u146 u147 u148 u149 u150 u151 u152 u153 u154 u155 u156 u157 u158 u159 u160 u161 u162 u163 u164 u165 u166 u167 u168 u169 u170 u171 u172 u173 u174 u175 u176 u177 u178 u179 u180 u181 u182 u183 u184 u185 u186 u187 u188 u189 u190 u191 u192 u193 u194 u195 u196 u197 u198 u199 : Value) w', Blk w' gv (scells (z 64)) 60 → Only (fun k => k = gv) w w' → Q0 (.exit 8) ⟨List.toArray (c0 :: c1 :: c2 :: .pointer (some ⟨gk, 0, none⟩) :: c4 :: c5 :: c6 :: c7 :: .pointer (some ⟨gw, 0, none⟩) :: c9 :: c10 :: c11 :: c12 :: .pointer (some ⟨gv, 0, none⟩) :: u14 :: u15 :: u16 :: u17 :: u18 :: u19 :: c20 :: c21 :: c22 :: c23 :: c24 :: c25 :: c26 :: c27 :: c28 :: c29 :: c30 :: c31 :: c32 :: c33 :: c34 :: c35 :: c36 :: c37 :: c38 :: c39 :: c40 :: c41 :: c42 :: c43 :: c44 :: c45 :: c46 :: c47 :: c48 :: c49 :: c50 :: c51 :: c52 :: c53 :: c54 :: c55 :: c56 :: c57 :: c58 :: c59 :: c60 :: c61 :: c62 :: c63 :: c64 :: c65 :: c66 :: c67 :: c68 :: c69 :: c70 :: c71 :: c72 :: c73 :: c74 :: c75 :: c76 :: c77 :: c78 :: c79 :: c80 :: c81 :: c82 :: c83 :: c84 :: c85 :: c86 :: c87 :: c88 :: c89 :: c90 :: c91 :: c92 :: c93 :: c94 :: c95 :: c96 :: c97 :: c98 :: c99 :: c100 :: c101 :: c102 :: c103 :: c104 :: c105 :: c106 :: c107 :: c108 :: c109 :: c110 :: u111 :: u112 :: u113 :: u114 :: u115 :: u116 :: u117 :: u118 :: u119 :: u120 :: u121 :: u122 :: u123 :: u124 :: u125 :: u126 :: u127 :: u128 :: u129 :: u130 :: u131 :: u132 :: u133 :: u134 :: u135 :: u136 :: u137 :: u138 :: u139 :: u140 :: u141 :: u142 :: u143 :: u144 :: u145 :: u146 :: u147 :: u148 :: u149 :: u150 :: u151 :: u152 :: u153 :: u154 :: u155 :: u156 :: u157 :: u158 :: u159 :: u160 :: u161 :: u162 :: u163 :: u164 :: u165 :: u166 :: u167 :: u168 :: u169 :: u170 :: u171 :: u172 :: u173 :: u174 :: u175 :: u176 :: u177 :: u178 :: u179 :: u180 :: u181 :: u182 :: u183 :: u184 :: u185 :: u186 :: u187 :: u188 :: u189 :: u190 :: u191 :: u192 :: u193 :: u194 :: u195 :: u196 :: u197 :: u198 :: u199 :: c200 :: c201 :: c202 :: c203 :: c204 :: c205 :: c206 :: c207 :: c208 :: c209 :: c210 :: c211 :: c212 :: c213 :: c214 :: c215 :: c216 :: c217 :: c218 :: c219 :: c220 :: c221 :: c222 :: c223 :: c224 :: c225 :: c226 :: c227 :: c228 :: c229 :: c230 :: c231 :: []), []⟩ w') :
    Code.wp Tryd.prog (Code.loop (rloop 4)) Q0 ⟨List.toArray (c0 :: c1 :: c2 :: .pointer (some ⟨gk, 0, none⟩) :: c4 :: c5 :: c6 :: c7 :: .pointer (some ⟨gw, 0, none⟩) :: c9 :: c10 :: c11 :: c12 :: .pointer (some ⟨gv, 0, none⟩) :: .int .i64 0 :: c15 :: c16 :: c17 :: c18 :: c19 :: c20 :: c21 :: c22 :: c23 :: c24 :: c25 :: c26 :: c27 :: c28 :: c29 :: c30 :: c31 :: c32 :: c33 :: c34 :: c35 :: c36 :: c37 :: c38 :: c39 :: c40 :: c41 :: c42 :: c43 :: c44 :: c45 :: c46 :: c47 :: c48 :: c49 :: c50 :: c51 :: c52 :: c53 :: c54 :: c55 :: c56 :: c57 :: c58 :: c59 :: c60 :: c61 :: c62 :: c63 :: c64 :: c65 :: c66 :: c67 :: c68 :: c69 :: c70 :: c71 :: c72 :: c73 :: c74 :: c75 :: c76 :: c77 :: c78 :: c79 :: c80 :: c81 :: c82 :: c83 :: c84 :: c85 :: c86 :: c87 :: c88 :: c89 :: c90 :: c91 :: c92 :: c93 :: c94 :: c95 :: c96 :: c97 :: c98 :: c99 :: c100 :: c101 :: c102 :: c103 :: c104 :: c105 :: c106 :: c107 :: c108 :: c109 :: c110 :: c111 :: c112 :: c113 :: c114 :: c115 :: c116 :: c117 :: c118 :: c119 :: c120 :: c121 :: c122 :: c123 :: c124 :: c125 :: c126 :: c127 :: c128 :: c129 :: c130 :: c131 :: c132 :: c133 :: c134 :: c135 :: c136 :: c137 :: c138 :: c139 :: c140 :: c141 :: c142 :: c143 :: c144 :: c145 :: c146 :: c147 :: c148 :: c149 :: c150 :: c151 :: c152 :: c153 :: c154 :: c155 :: c156 :: c157 :: c158 :: c159 :: c160 :: c161 :: c162 :: c163 :: c164 :: c165 :: c166 :: c167 :: c168 :: c169 :: c170 :: c171 :: c172 :: c173 :: c174 :: c175 :: c176 :: c177 :: c178 :: c179 :: c180 :: c181 :: c182 :: c183 :: c184 :: c185 :: c186 :: c187 :: c188 :: c189 :: c190 :: c191 :: c192 :: c193 :: c194 :: c195 :: c196 :: c197 :: c198 :: c199 :: c200 :: c201 :: c202 :: c203 :: c204 :: c205 :: c206 :: c207 :: c208 :: c209 :: c210 :: c211 :: c212 :: c213 :: c214 :: c215 :: c216 :: c217 :: c218 :: c219 :: c220 :: c221 :: c222 :: c223 :: c224 :: c225 :: c226 :: c227 :: c228 :: c229 :: c230 :: c231 :: []), []⟩ w := by
  conv => arg 2; arg 1; whnf
  have HV := Lib.hid hv; have HX := Lib.hid hexit; have HK := Lib.hid hk; have HW := Lib.hid hw
  clear hv hexit hk hw
  go_loopw [14] (fun tv wr => ∃ t : Nat, t ≤ 64 ∧ tv = .int .i64 t ∧ Blk wr gv (scells (z t)) 60 ∧ Only (fun k => k = gv) w wr) (fun tv _ => 64 - (intOf tv).toNat)
  case atStart => exact ⟨0, Nat.zero_le _, rfl, by rw [hz.start]; exact HV.out, Only.refl _ _⟩
  case round =>
    obtain ⟨t, ht, rfl, hv, ho⟩ := hrel
    by_cases ht64 : t < 64
    · have hnx := hz.next t
      have ck : wr.cell? ⟨gk, t, none⟩ = some (.int .u32 (K.getD t 0)) := by
        rw [(HK.out.keep ho hnk).cell]; exact map_word_get (by rw [hz.klen]; exact ht64)
      have cw : wr.cell? ⟨gw, t, none⟩ = some (.int .u32 (W.getD t 0)) := by
        rw [(HW.out.keep ho hnw).cell]; exact map_word_get (by rw [hz.wlen]; exact ht64)
      obtain ⟨zt, hzt⟩ : ∃ zt, z t = zt := ⟨_, rfl⟩
      rw [hzt] at hv hnx
      have HNX := Lib.hid hnx
      clear hnx hzt
      generalize K.getD t 0 = kt at *
      generalize W.getD t 0 = wt at *
      obtain ⟨xa, xb, xc, xd, xe, xf, xg, xh⟩ := zt
      have v0 : wr.cell? ⟨gv, 0, none⟩ = some (.int .u32 xa) := by rw [hv.cell]; rfl
      have v1 : wr.cell? ⟨gv, 1, none⟩ = some (.int .u32 xb) := by rw [hv.cell]; rfl
      have v2 : wr.cell? ⟨gv, 2, none⟩ = some (.int .u32 xc) := by rw [hv.cell]; rfl
      have v4 : wr.cell? ⟨gv, 4, none⟩ = some (.int .u32 xe) := by rw [hv.cell]; rfl
      have v5 : wr.cell? ⟨gv, 5, none⟩ = some (.int .u32 xf) := by rw [hv.cell]; rfl
      have v6 : wr.cell? ⟨gv, 6, none⟩ = some (.int .u32 xg) := by rw [hv.cell]; rfl
      have v7 : wr.cell? ⟨gv, 7, none⟩ = some (.int .u32 xh) := by rw [hv.cell]; rfl
      have HV1 := Lib.hid hv; have HO := Lib.hid ho
      have pz : 0 ≤ (t : Int) := by omega
      have mz : (t : Int) < 64 := by omega
      clear hv ho
      go_wp2
      refine wp_region_still_lit (by kernel_rfl) (by kernel_rfl) ?_
      repeat (first | still_step | still_call (turn_same _ _ (by decide) _))
      refine wpStill_nil ?_
      change Exit.then _ _ _ _ wr.drew
      have d0 : wr.drew.cell? ⟨gv, 0, none⟩ = some (.int .u32 xa) := v0
      clear v0 v1 v2 v4 v5 v6 v7 ck cw
      have HV2 : Hid (Blk wr.drew gv (scells ⟨xa, xb, xc, xd, xe, xf, xg, xh⟩) 60) := Lib.hid HV1.out.drew
      have HO2 : Hid (Only (fun k => k = gv) w wr.drew) := Lib.hid (HO.out.trans (Only.drew.mono (fun _ _ x => x.elim)))
      clear HV1 HO
      generalize wr.drew = w1 at *
      go_wp2
      refine wp_region_still_lit (by kernel_rfl) (by kernel_rfl) ?_
      repeat (first | still_step | still_call (turn_same _ _ (by decide) _))
      refine wpStill_nil ?_
      change Exit.then _ _ _ _ w1.drew
      have HV3 : Hid (Blk w1.drew gv (scells ⟨xa, xb, xc, xd, xe, xf, xg, xh⟩) 60) := Lib.hid HV2.out.drew
      have HO3 : Hid (Only (fun k => k = gv) w w1.drew) := Lib.hid (HO2.out.trans (Only.drew.mono (fun _ _ x => x.elim)))
      clear HV2 HO2 d0
      obtain ⟨w2, hw2⟩ : ∃ w2, w1.drew = w2 := ⟨_, rfl⟩
      rw [hw2] at HV3 HO3 ⊢
      clear hw2
      have HV2 := HV3
      clear HV3
      go_wp2
      refine ref_shift _ _ _ _ _ _ _ _ _ _ _ _ _ _ _ _ _ _ _ _ _ _ _ _ _ _ _ _ _ _ _ _ _ _ _ _ _ _ _ _ _ _ _ _ _ _ _ _ _ _ _ _ _ _ _ _ _ _ _ _ _ _ _ _ _ _ _ _ _ _ _ _ _ _ _ _ _ _ _ _ _ _ _ _ _ _ _ _ _ _ _ _ _ _ _ _ _ _ _ _ _ _ _ _ _ _ _ _ _ _ _ _ _ _ _ _ _ _ _ _ _ _ _ _ _ _ _ _ _ _ _ _ _ _ _ _ _ _ _ _ _ _ _ _ _ _ _ _ _ _ _ _ _ _ _ _ _ _ _ _ _ _ _ _ _ _ _ _ _ _ _ _ _ _ _ _ _ _ _ _ _ _ _ _ _ _ _ _ _ _ _ _ _ _ _ _ _ _ _ _ _ _ _ _ _ _ _ _ _ _ _ _ _ _ _ _ _ _ _ _ _ _ _ _ _ _ _ _ _ _  (w := w2) (s := ⟨xa, xb, xc, xd, xe, xf, xg, xh⟩)  HV2.out _ ?_
      intro u19 u181 u182 u183 u184 u185 u186 u187 u188 u189 u190 w' hb' ho'
      have cd : w'.cell? ⟨gv, 4, none⟩ = some (.int .u32 xd) := by rw [hb'.cell]; rfl
      have ca : w'.cell? ⟨gv, 0, none⟩ = some (.int .u32 xa) := by rw [hb'.cell]; rfl
      have fd : w'.frozen? ⟨gv, 4, none⟩ = false := hb'.frozen _
      have fa : ∀ x, (w'.setCell ⟨gv, 4, none⟩ x).frozen? ⟨gv, 0, none⟩ = false := fun x => (hb'.set 4 x).frozen _
      have HEN : Hid (∀ x y : Int, Blk ((w'.setCell ⟨gv, 4, none⟩ (.int .u32 x)).setCell ⟨gv, 0, none⟩ (.int .u32 y)) gv (scells ⟨y, xa, xb, xc, x, xe, xf, xg⟩) 60) := Lib.hid fun x y => (hb'.set 4 (wordV x)).set 0 (wordV y)
      have HON : Hid (∀ x y, Only (fun k => k = gv) w ((w'.setCell ⟨gv, 4, none⟩ x).setCell ⟨gv, 0, none⟩ y)) := Lib.hid fun x y =>
        ((HO3.out.trans ho').trans (Only.setCell ⟨gv, 4, none⟩ _)).trans (Only.setCell ⟨gv, 0, none⟩ _)
      clear hb' ho'
      go_wp2
      refine ⟨⟨t + 1, by omega, by go_num, ?_, HON.out _ _⟩, by simp [intOf]; omega⟩
      rw [HNX.out, rnd_flat]
      exact HEN.out _ _
    · obtain rfl : t = 64 := by omega
      have HNX := Lib.hid hv; have HON := Lib.hid ho
      clear hv ho
      go_wp2
      exact HX.out _ _ _ _ _ _ _ _ _ _ _ _ _ _ _ _ _ _ _ _ _ _ _ _ _ _ _ _ _ _ _ _ _ _ _ _ _ _ _ _ _ _ _ _ _ _ _ _ _ _ _ _ _ _ _ _ _ _ _ _ _ _ _ _ _ _ _ _ _ _ _ _ _ _ _ _ _ _ _ _ _ _ _ _ _ _ _ _ _ _ _ _ _ _ _ wr HNX.out HON.out

end Go.Proofs.YtdgaojibfpafnaaDoor
