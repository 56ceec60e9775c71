/- The loop over the blocks of the document's own SHA-256. Conditions: below 2^40 bytes. -/
import Derived.Test.YtdgaojibfpafnaaDoorSRefRnds
import Derived.Test.YtdgaojibfpafnaaDoorSRefAdd
namespace Go.Proofs.YtdgaojibfpafnaaDoor
open Go.RowKit

/-- The states behind each block, by what each of them is; a state is named by how many bytes lie before it. -/
structure Blocks (K : List Int) (m : List UInt8) (y : Nat → Sh.V8) : Prop where
  step : ∀ A, A + 64 ≤ m.length → A % 64 = 0 → ∃ W z, Sched ((m.drop A).take 64) W ∧ Rounds K W (y A) z ∧ y (A + 64) = Sh.add8 (y A) (z 64)
  len : m.length % 64 = 0
  short : m.length ≤ 1099511627776
theorem blocks_of {m : List UInt8} (h1 : m.length % 64 = 0) (h2 : m.length ≤ 1099511627776) : Blocks Sh.ks m (fun A => Sh.after m (A / 64)) :=
  ⟨fun A _ ha => ⟨_, _, sched_of _, rounds_of _ _, by
    show Sh.after m ((A + 64) / 64) = _
    have e : (A + 64) / 64 = A / 64 + 1 := by omega
    have e2 : 64 * (A / 64) = A := by omega
    rw [e]
    show Sh.compress (Sh.after m (A / 64)) ((m.drop (64 * (A / 64))).take 64) = _
    rw [e2]
    rfl⟩, h1, h2⟩

set_option maxRecDepth 1000000 in
set_option maxHeartbeats 4000000 in
theorem ref_blks (c0 c1 c2 c5 c8 c9 c10 c11 c12 c13 c14 c15 c16 c17 c18 c19 c20 c21 c22 c23 c24 c25 c26 c27 c28 c29 c30 c31 c32 c33 c34 c35 c36 c37 c38 c39 c40 c41 c42 c43 c44 c45 c46 c47 c48 c49 c50 c51 c52 c53 c54 c55 c56 c57 c58 c59 c60 c61 c62 c63 c64 c65 c66 c67 c68 c69 c70 c71 c72 c73 c74 c75 c76 c77 c78 c79 c80 c81 c82 c83 c84 c85 c86 c87 c88 c89 c90 c91 c92 c93 c94 c95 c96 c97 c98 c99 c100 c101 c102 c103 c104 c105 c106 c107 c108 c109 c110 c111 c112 c113 c114 c115 c116 c117 c118 c119 c120 c121 c122 c123 c124 c125 c126 c127 c128 c129 c130 c131 c132 c133 c134 c135 c136 c137 c138 c139 c140 c141 c142 c143 c144 c145 c146 c147 c148 c149 c150 c151 c152 c153 c154 c155 c156 c157 c158 c159 c160 c161 c162 c163 c164 c165 c166 c167 c168 c169 c170 c171 c172 c173 c174 c175 c176 c177 c178 c179 c180 c181 c182 c183 c184 c185 c186 c187 c188 c189 c190 c191 c192 c193 c194 c195 c196 c197 c198 c199 c200 c201 c202 c203 c204 c205 c206 c207 c208 c209 c210 c211 c212 c213 c214 c215 c216 c217 c218 c219 c220 c221 c222 c223 c224 c225 c226 c227 c228 c229 c230 c231 : Value) {w : World} {g gk gh cap : Nat} {K : List Int} {m : List UInt8} {y : Nat → Sh.V8} (hy : Blocks K m y) (hk : Blk w gk (K.map wordV) 59) (hh : Blk w gh (scells (y 0)) 60) (hm : ∀ j, j < m.length → w.cell? ⟨g, j, none⟩ = some (.int .u8 ((m.getD j 0).toNat : Int))) (hgk : gk ≠ gh) (hgg : g ≠ gh) (Q0 : Exit → Act → World → Prop)
    (hexit : ∀ (u7 u8 u9 u10 u11 u12 u13 u14 u15 u16 u17 u18 u19 u20 u39 u40 u41 u42 u43 u44 u45 u46 u47 u48 u49 u50 u51 u52 u53 u54 u55 u56 u57 u58 u59 u60 u61 u62 u63 u64 u65 u66 u67 u68 u69 u70 u71 u72 u73 u74 u75 u76 u77 u78 u79 u80 u81 u82 u83 u84 u85 u86 u87 u88 u89 u90 u91 u92 u93 u94 u95 u96 u97 u98 u99 u100 u101 u102 u103 u104 u105 u106 u107 u108 u109 u110 u111 u112 u113 u114 u115 u116 u117 u118 u119 u120 u121 u122 u123 u124 u125 u126 u127 u128 u129 u130 u131 u132 u133 u134 u135 u136 u137 u138 u139 u140 u141 u142 u143 u144 u145 u146 u147 u148 u149 u150 u151 u152 u153 u154 u155 u156 u157 u158 u159 u160 u161 u162 u163 u164 u165 u166 u167 u168 u169 u170 u171 u172 u173 u174 u175 u176 u177 u178 u179 u180 u181 u182 u183 u184 u185 u186 u187 u188 u189 u190 u191 u192 u193 u194 u195 u196 u197 u198 u199 u200 u201 u202 u203 u204 u205 u206 u207 u208 u209 u210 u211 u212 : Value) w', Blk w' gh (scells (y m.length)) 60 → Only (fun k => k = gh) w w' → Q0 (.exit 2) ⟨List.toArray (c0 :: c1 :: c2 :: .pointer (some ⟨gk, 0, none⟩) :: .slice (some ⟨g, 0, none⟩) m.length cap :: c5 :: .pointer (some ⟨gh, 0, none⟩) :: u7 :: u8 :: u9 :: u10 :: u11 :: u12 :: u13 :: u14 :: u15 :: u16 :: u17 :: u18 :: u19 :: u20 :: c21 :: c22 :: c23 :: c24 :: c25 :: c26 :: c27 :: c28 :: c29 :: c30 :: c31 :: c32 :: c33 :: c34 :: c35 :: c36 :: c37 :: c38 :: u39 :: u40 :: u41 :: u42 :: u43 :: u44 :: u45 :: u46 :: u47 :: u48 :: u49 :: u50 :: u51 :: u52 :: u53 :: u54 :: u55 :: u56 :: u57 :: u58 :: u59 :: u60 :: u61 :: u62 :: u63 :: u64 :: u65 :: u66 :: u67 :: u68 :: u69 :: u70 :: u71 :: u72 :: u73 :: u74 :: u75 :: u76 :: u77 :: u78 :: u79 :: u80 :: u81 :: u82 :: u83 :: u84 :: u85 :: u86 :: u87 :: u88 :: u89 :: u90 :: u91 :: u92 :: u93 :: u94 :: u95 :: u96 :: u97 :: u98 :: u99 :: u100 :: u101 :: u102 :: u103 :: u104 :: u105 :: u106 :: u107 :: u108 :: u109 :: u110 :: u111 :: u112 :: u113 :: u114 :: u115 :: u116 :: u117 :: u118 :: u119 :: u120 :: u121 :: u122 :: u123 :: u124 :: u125 :: u126 :: u127 :: u128 :: u129 :: u130 :: u131 :: u132 :: u133 :: u134 :: u135 :: u136 :: u137 :: u138 :: u139 :: u140 :: u141 :: u142 :: u143 :: u144 :: u145 :: u146 :: u147 :: u148 :: u149 :: u150 :: u151 :: u152 :: u153 :: u154 :: u155 :: u156 :: u157 :: u158 :: u159 :: u160 :: u161 :: u162 :: u163 :: u164 :: u165 :: u166 :: u167 :: u168 :: u169 :: u170 :: u171 :: u172 :: u173 :: u174 :: u175 :: u176 :: u177 :: u178 :: u179 :: u180 :: u181 :: u182 :: u183 :: u184 :: u185 :: u186 :: u187 :: u188 :: u189 :: u190 :: u191 :: u192 :: u193 :: u194 :: u195 :: u196 :: u197 :: u198 :: u199 :: u200 :: u201 :: u202 :: u203 :: u204 :: u205 :: u206 :: u207 :: u208 :: u209 :: u210 :: u211 :: u212 :: c213 :: c214 :: c215 :: c216 :: c217 :: c218 :: c219 :: c220 :: c221 :: c222 :: c223 :: c224 :: c225 :: c226 :: c227 :: c228 :: c229 :: c230 :: c231 :: []), []⟩ w') :
    Code.wp Tryd.prog (Code.loop (rloop 1)) Q0 ⟨List.toArray (c0 :: c1 :: c2 :: .pointer (some ⟨gk, 0, none⟩) :: .slice (some ⟨g, 0, none⟩) m.length cap :: c5 :: .pointer (some ⟨gh, 0, none⟩) :: .int .i64 0 :: c8 :: c9 :: c10 :: c11 :: c12 :: c13 :: c14 :: c15 :: c16 :: c17 :: c18 :: c19 :: c20 :: c21 :: c22 :: c23 :: c24 :: c25 :: c26 :: c27 :: c28 :: c29 :: c30 :: c31 :: c32 :: c33 :: c34 :: c35 :: c36 :: c37 :: c38 :: c39 :: c40 :: c41 :: c42 :: c43 :: c44 :: c45 :: c46 :: c47 :: c48 :: c49 :: c50 :: c51 :: c52 :: c53 :: c54 :: c55 :: c56 :: c57 :: c58 :: c59 :: c60 :: c61 :: c62 :: c63 :: c64 :: c65 :: c66 :: c67 :: c68 :: c69 :: c70 :: c71 :: c72 :: c73 :: c74 :: c75 :: c76 :: c77 :: c78 :: c79 :: c80 :: c81 :: c82 :: c83 :: c84 :: c85 :: c86 :: c87 :: c88 :: c89 :: c90 :: c91 :: c92 :: c93 :: c94 :: c95 :: c96 :: c97 :: c98 :: c99 :: c100 :: c101 :: c102 :: c103 :: c104 :: c105 :: c106 :: c107 :: c108 :: c109 :: c110 :: c111 :: c112 :: c113 :: c114 :: c115 :: c116 :: c117 :: c118 :: c119 :: c120 :: c121 :: c122 :: c123 :: c124 :: c125 :: c126 :: c127 :: c128 :: c129 :: c130 :: c131 :: c132 :: c133 :: c134 :: c135 :: c136 :: c137 :: c138 :: c139 :: c140 :: c141 :: c142 :: c143 :: c144 :: c145 :: c146 :: c147 :: c148 :: c149 :: c150 :: c151 :: c152 :: c153 :: c154 :: c155 :: c156 :: c157 :: c158 :: c159 :: c160 :: c161 :: c162 :: c163 :: c164 :: c165 :: c166 :: c167 :: c168 :: c169 :: c170 :: c171 :: c172 :: c173 :: c174 :: c175 :: c176 :: c177 :: c178 :: c179 :: c180 :: c181 :: c182 :: c183 :: c184 :: c185 :: c186 :: c187 :: c188 :: c189 :: c190 :: c191 :: c192 :: c193 :: c194 :: c195 :: c196 :: c197 :: c198 :: c199 :: c200 :: c201 :: c202 :: c203 :: c204 :: c205 :: c206 :: c207 :: c208 :: c209 :: c210 :: c211 :: c212 :: c213 :: c214 :: c215 :: c216 :: c217 :: c218 :: c219 :: c220 :: c221 :: c222 :: c223 :: c224 :: c225 :: c226 :: c227 :: c228 :: c229 :: c230 :: c231 :: []), []⟩ w := by
  conv => arg 2; arg 1; whnf
  have HK := Lib.hid hk; have HH := Lib.hid hh; have HM := Lib.hid hm; have HX := Lib.hid hexit; have HGK := Lib.hid hgk; have HGG := Lib.hid hgg
  clear hk hh hm hexit hgk hgg
  go_loopw [7] (fun av wr => ∃ A : Nat, A ≤ m.length ∧ A % 64 = 0 ∧ av = .int .i64 (A : Int) ∧ Blk wr gh (scells (y A)) 60 ∧ Only (fun k => k = gh) w wr) (fun av _ => m.length + 64 - (intOf av).toNat)
  case atStart => exact ⟨0, Nat.zero_le _, rfl, rfl, HH.out, Only.refl _ _⟩
  case round =>
    obtain ⟨A, hA, hA6, rfl, hh, ho⟩ := hrel
    have hmul := hy.len
    by_cases hlt : A < m.length
    · have hA64 : A + 64 ≤ m.length := by omega
      obtain ⟨W, z, hsc, hrd, hnx⟩ := hy.step A hA64 hA6
      have hfit : Fits A m.length := ⟨hA64, hy.short⟩
      obtain ⟨blk, hblk⟩ : ∃ blk, (m.drop A).take 64 = blk := ⟨_, rfl⟩
      rw [hblk] at hsc
      have kA : IntKind.i64.wrap ((A : Int) + 64) = (A : Int) + 64 := IntWalk.i64_in _ (by have := hy.short; omega)
      have hcell : ∀ q, q < 64 → wr.cell? ⟨g, A + q, none⟩ = some (.int .u8 ((blk.getD q 0).toNat : Int)) := fun q hq => by
        have h1 := HM.out (A + q) (by omega)
        rw [World.cell?_of_block (w := w) (ho.block g (World.block_lt_of_cell? w _ h1) HGG.out), h1, ← hblk]
        simp [hq]
      have hgl : g < wr.heap.size := World.block_lt_of_cell? wr _ (hcell 0 (by decide))
      have hkr := HK.out.keep ho HGK.out
      have HNX := Lib.hid hnx
      have HHR := Lib.hid hh; have HO := Lib.hid ho; have HKR := Lib.hid hkr; have HCELL := Lib.hid hcell; have HGL := Lib.hid hgl
      have HA64 := Lib.hid hA64; have HA6 := Lib.hid hA6
      have htz : (A : Int) < (m.length : Int) := by omega
      clear hh ho hkr hcell hgl hA64 hA6 hnx hblk hmul
      generalize y A = s at *
      go_wp2_with (first
        | (refine wpList_build_as rfl 59 #[] rfl [] (by simp [go_sem]) (wcells []).toArray built_w ?_)
        | (refine wpList_store_row rfl 59 (.tmp 8) (.tmp 45) rfl wr.heap.size (wcells []).toArray rfl rfl 59 (wcells []).toArray (heap_alloc_last _ _) size_64w rfl (oneCell_words (List.replicate 64 0)) ?_; rw [World.setRow_alloc_new]; have HW6 := Lib.hid (Blk.new wr (wcells []) 59); have HO6 : Hid (Only (fun _ => False) wr (wr.alloc (.cells (wcells []).toArray 59))) := Only.alloc _; generalize wr.alloc (.cells (wcells []).toArray 59) = w6 at *))
      have hcb : ∀ q, q < 64 → ∀ w', Only (fun k => k = wr.heap.size) w6 w' → w'.cell? ⟨g, A + q, none⟩ = some (.int .u8 ((blk.getD q 0).toNat : Int)) := fun q hq w' ho' => by
        have hg := HGL.out
        rw [World.cell?_of_block (w := w6) (ho'.block g (Nat.lt_of_lt_of_le hg HO6.out.size) (by omega)), World.cell?_of_block (w := wr) (HO6.out.block g hg (fun x => x))]
        exact HCELL.out q hq
      have HCB := Lib.hid hcb
      clear hcb
      refine ref_sched _ _ _ _ _ _ _ _ _ _ _ _ _ _ _ _ _ _ _ _ _ _ _ _ _ _ _ _ _ _ _ _ _ _ _ _ _ _ _ _ _ _ _ _ _ _ _ _ _ _ _ _ _ _ _ _ _ _ _ _ _ _ _ _ _ _ _ _ _ _ _ _ _ _ _ _ _ _ _ _ _ _ _ _ _ _ _ _ _ _ _ _ _ _ _ _ _ _ _ _ _ _ _ _ _ _ _ _ _ _ _ _ _ _ _ _ _ _ _ _ _ _ _ _ _ _ _ _ _ _ _ _ _ _ _ _ _ _ _ _ _ _ _ _ _ _ _ _ _ _ _ _ _ _ _ _ _ _ _ _ _ _ _ _ _ _ _ _ _ _ _ _ _ _ _ _ _ _ _ _ _ _ _ _ _ _ _ _ _ _ _ _ _ _ _ _ _ _ _ _ _ _ _ _ _ _ _ _ _ _ _ _ _ _ _ _ _ _ _ _ _ _ _ _ _ _ _ _  (w := w6) (blk := blk) (W := W) (gw := wr.heap.size)  HW6.out hsc hfit HCB.out _ ?_
      intro u9 u10 u11 u12 u46 u47 u48 u49 u50 u51 u52 u53 u54 u55 u56 u57 u58 u59 u60 u61 u62 u63 u64 u65 u66 u67 u68 u69 u70 u71 u72 u73 u74 u75 u76 u77 u78 u79 u80 u81 u82 u83 u84 u85 u86 u87 u88 u89 u90 u91 u92 u93 u94 u95 u96 u97 u98 u99 u100 u101 u102 u103 u104 u105 u106 u107 u108 u109 w7 hw7 ho7
      have hl := HHR.out.lt
      have hlk := HKR.out.lt
      have hhn : gh ≠ wr.heap.size := by omega
      have hkn : gk ≠ wr.heap.size := by omega
      have HH7 := Lib.hid ((HHR.out.keep HO6.out (fun x => x)).keep ho7 hhn)
      have HK7 := Lib.hid ((HKR.out.keep HO6.out (fun x => x)).keep ho7 hkn)
      have hw7' : Blk w7 wr.heap.size (W.map wordV) 59 := by rw [← wcells_full hrd.wlen]; exact hw7
      have HW7 := Lib.hid hw7'
      have HO7 : Hid (Only (fun k => k = gh) w w7) := Lib.hid ((HO.out.trans (HO6.out.mono (fun _ _ x => x.elim))).andThen ho7 (fun k hk e => by have := HO.out.size; omega))
      have HHP := Lib.hid HH7.out.heap
      clear hw7 ho7 hl hlk hhn hkn hw7' HCB HCELL HW6 HO6 HKR HHR HO
      go_wp2_with (first
        | (refine wpList_load_row rfl 60 (.tmp 6) rfl gh rfl 60 (scells s).toArray (0, 0) _ HHP.out Tryd.underlying60 rfl size_8w ?_)
        | (refine wpList_store_row rfl 60 (.tmp 13) (.tmp 110) rfl w7.heap.size (scells s).toArray rfl rfl 60 (scells zero8).toArray (heap_alloc_last _ _) size_8w rfl (oneCell_words _) ?_; rw [World.setRow_alloc_new]; have HV8 := Lib.hid (Blk.new w7 (scells s) 60); have HO8 : Hid (Only (fun _ => False) w7 (w7.alloc (.cells (scells s).toArray 60))) := Only.alloc _; generalize w7.alloc (.cells (scells s).toArray 60) = w8 at *))
      have HK8 := Lib.hid (HK7.out.keep HO8.out (fun x => x))
      have HW8 := Lib.hid (HW7.out.keep HO8.out (fun x => x))
      have HH8 := Lib.hid (HH7.out.keep HO8.out (fun x => x))
      have HNK : Hid (gk ≠ w7.heap.size) := Lib.hid (by have := HK7.out.lt; omega)
      have HNW : Hid (wr.heap.size ≠ w7.heap.size) := Lib.hid (by have := HW7.out.lt; omega)
      have HNE : Hid (w7.heap.size ≠ gh) := Lib.hid (by have := HH7.out.lt; omega)
      refine ref_rnds _ _ _ _ _ _ _ _ _ _ _ _ _ _ _ _ _ _ _ _ _ _ _ _ _ _ _ _ _ _ _ _ _ _ _ _ _ _ _ _ _ _ _ _ _ _ _ _ _ _ _ _ _ _ _ _ _ _ _ _ _ _ _ _ _ _ _ _ _ _ _ _ _ _ _ _ _ _ _ _ _ _ _ _ _ _ _ _ _ _ _ _ _ _ _ _ _ _ _ _ _ _ _ _ _ _ _ _ _ _ _ _ _ _ _ _ _ _ _ _ _ _ _ _ _ _ _ _ _ _ _ _ _ _ _ _ _ _ _ _ _ _ _ _ _ _ _ _ _ _ _ _ _ _ _ _ _ _ _ _ _ _ _ _ _ _ _ _ _ _ _ _ _ _ _ _ _ _ _ _ _ _ _ _ _ _ _ _ _ _ _ _ _ _ _ _ _ _ _ _ _ _ _ _ _ _ _ _ _ _ _ _ _ _ _ _ _ _ _ _ _ _ _ _ _ _ _ _  (w := w8) (K := K) (W := W) (s := s) (z := z) (gv := w7.heap.size)  hrd HK8.out HW8.out HV8.out HNK.out HNW.out _ ?_
      intro u14 u15 u16 u17 u18 u19 u111 u112 u113 u114 u115 u116 u117 u118 u119 u120 u121 u122 u123 u124 u125 u126 u127 u128 u129 u130 u131 u132 u133 u134 u135 u136 u137 u138 u139 u140 u141 u142 u143 u144 u145 u146 u147 u148 u149 u150 u151 u152 u153 u154 u155 u156 u157 u158 u159 u160 u161 u162 u163 u164 u165 u166 u167 u168 u169 u170 u171 u172 u173 u174 u175 u176 u177 u178 u179 u180 u181 u182 u183 u184 u185 u186 u187 u188 u189 u190 u191 u192 u193 u194 u195 u196 u197 u198 u199 w9 hv9 ho9
      have HV9 := Lib.hid hv9
      have HH9 := Lib.hid (HH8.out.keep ho9 (fun e => HNE.out e.symm))
      have HO9 : Hid (Only (fun k => k = gh) w w9) := Lib.hid ((HO7.out.trans (HO8.out.mono (fun _ _ x => x.elim))).andThen ho9 (fun k hk e => by have := HO7.out.size; omega))
      clear hv9 ho9
      go_wp2
      refine ref_add _ _ _ _ _ _ _ _ _ _ _ _ _ _ _ _ _ _ _ _ _ _ _ _ _ _ _ _ _ _ _ _ _ _ _ _ _ _ _ _ _ _ _ _ _ _ _ _ _ _ _ _ _ _ _ _ _ _ _ _ _ _ _ _ _ _ _ _ _ _ _ _ _ _ _ _ _ _ _ _ _ _ _ _ _ _ _ _ _ _ _ _ _ _ _ _ _ _ _ _ _ _ _ _ _ _ _ _ _ _ _ _ _ _ _ _ _ _ _ _ _ _ _ _ _ _ _ _ _ _ _ _ _ _ _ _ _ _ _ _ _ _ _ _ _ _ _ _ _ _ _ _ _ _ _ _ _ _ _ _ _ _ _ _ _ _ _ _ _ _ _ _ _ _ _ _ _ _ _ _ _ _ _ _ _ _ _ _ _ _ _ _ _ _ _ _ _ _ _ _ _ _ _ _ _ _ _ _ _ _ _ _ _ _ _ _ _ _ _ _ _ _ _ _ _ _ _ _ _  (w := w9) (s := s) (v := z 64)  HH9.out HV9.out HNE.out _ ?_
      intro u20 u200 u201 u202 u203 u204 u205 u206 u207 u208 u209 u210 u211 u212 w10 hh10 ho10
      have hnx2 : Blk w10 gh (scells (y (A + 64))) 60 := by rw [HNX.out]; exact hh10
      have HN10 := Lib.hid hnx2; have HO10 := Lib.hid (HO9.out.trans ho10)
      clear hh10 ho10 hnx2
      go_wp2
      exact ⟨⟨A + 64, HA64.out, by have := HA6.out; omega, by go_num, HN10.out, HO10.out⟩, by simp [intOf]; omega⟩
    · obtain rfl : A = m.length := by omega
      have HNX := Lib.hid hh; have HON := Lib.hid ho
      clear hh ho hmul
      go_wp2
      exact HX.out _ _ _ _ _ _ _ _ _ _ _ _ _ _ _ _ _ _ _ _ _ _ _ _ _ _ _ _ _ _ _ _ _ _ _ _ _ _ _ _ _ _ _ _ _ _ _ _ _ _ _ _ _ _ _ _ _ _ _ _ _ _ _ _ _ _ _ _ _ _ _ _ _ _ _ _ _ _ _ _ _ _ _ _ _ _ _ _ _ _ _ _ _ _ _ _ _ _ _ _ _ _ _ _ _ _ _ _ _ _ _ _ _ _ _ _ _ _ _ _ _ _ _ _ _ _ _ _ _ _ _ _ _ _ _ _ _ _ _ _ _ _ _ _ _ _ _ _ _ _ _ _ _ _ _ _ _ _ _ _ _ _ _ _ _ _ _ _ _ _ _ _ _ _ _ _ _ _ _ _ _ _ _ _ _ _ _ _ wr HNX.out HON.out

end Go.Proofs.YtdgaojibfpafnaaDoor
