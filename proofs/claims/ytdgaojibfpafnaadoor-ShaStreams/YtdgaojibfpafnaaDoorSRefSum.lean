/- The document's own SHA-256: amphoraref02.Sum. Conditions: rows below 2^39 bytes. -/
import Derived.Test.YtdgaojibfpafnaaDoorSRefBlks
import Derived.Test.YtdgaojibfpafnaaDoorSRefOut
namespace Go.Proofs.YtdgaojibfpafnaaDoor
open Go.RowKit

theorem size_32b : (Tryd.prog.info? 26).map (·.size) = some 32 := by kernel_rfl

set_option maxRecDepth 1000000 in
set_option maxHeartbeats 4000000 in
theorem rSum_any {w : World} {S : Nat → Prop} {v : Value} {ps : List (List UInt8)} (hv : PartsAt w S v ps) (hS : ∀ k, S k → k < w.heap.size) (hlen : ps.flatten.length ≤ 549755813888) (hn : ps.length ≤ 1048576) :
    Calls Tryd.prog 13 #[v] w fun e w' => e = .returned (digV (Sh.sum ps.flatten)) ∧ Only (fun _ => False) w w' := by
  obtain ⟨va, vc, rfl, hcp, hat⟩ := id hv
  have HV := Lib.hid hv; have HAT := Lib.hid hat; have HS := Lib.hid hS; have HL := Lib.hid hlen
  clear hv hat hS hlen
  go_enter Tryd.func13, Tryd.ntmps13
  go_wp2_with (first
    | (refine wpList_build_as rfl 59 _ rfl kpairs (by simp [go_sem]; rfl) (Sh.ks.map wordV).toArray built_k ?_)
    | (refine wpList_store_row rfl 59 (.tmp 3) (.tmp 23) rfl (w.heap.size + 1) (Sh.ks.map wordV).toArray rfl rfl 59 (wcells []).toArray (Blk.new1 _ _ _ _) size_64w rfl (oneCell_words _) ?_))
  generalize hw2 : (((w.alloc _).alloc _).setRow (w.heap.size + 1) _) = w2
  have hk2 : Blk w2 (w.heap.size + 1) (Sh.ks.map wordV) 59 := by rw [← hw2]; exact (Blk.new1 w _ (wcells []) 59).row _
  have hr2 : Blk w2 w.heap.size (ocells 32 []) 26 := by rw [← hw2]; exact ((Blk.new w (ocells 32 []) 26).alloc _).rowNe _ (by omega)
  have ho2 : Only (fun _ => False) w w2 := by rw [← hw2]; exact ((Only.alloc _).trans (Only.alloc _)).andThen (Only.setRow _ _) (fun k hk e => by omega)
  have HK2 := Lib.hid hk2; have HR2 := Lib.hid hr2; have HO2 := Lib.hid ho2
  clear hw2 hk2 hr2 ho2
  go_loopw [4, 5] (fun mv iv wr => ∃ i : Nat, i ≤ ps.length ∧ iv = .int .i64 i ∧ Row w2 wr mv (ps.take i).flatten) (fun _ iv _ => ps.length - (intOf iv).toNat)
  case atStart => exact ⟨0, Nat.zero_le _, rfl, World.ownsRow_nil _ _ _ _, (fun q hq => by cases hq), Only.refl _ _⟩
  case round =>
    obtain ⟨i, hi, rfl, hr⟩ := hrel
    obtain ⟨ma, mc, rfl⟩ := hr.shape
    have hfl := flatten_take_le ps i
    by_cases hlt : i < ps.length
    · obtain ⟨ad, u, rfl, hsb, hcell, hby⟩ := HAT.out i hlt
      have how := HO2.out.trans hr.only
      have c1 : wr.cell? (ad.add i) = some u := by
        rw [World.cell?_of_block (w := w) (by rw [add_block]; exact how.block _ (HS.out _ hsb) (fun x => x))]
        exact hcell
      have hb1 := hby.only how HS.out (fun _ _ x => x)
      obtain ⟨ua, uc, rfl⟩ := hby.shape
      have hts := flatten_take_succ hlt
      have hle := flatten_take_le ps (i + 1)
      rw [hts, List.length_append] at hle
      have HB1 := Lib.hid hb1; have HR := Lib.hid hr; have HTS := Lib.hid hts; have HROW := Lib.hid hr.row
      have pz : 0 ≤ (i : Int) := by omega
      have mz : (i : Int) < (ps.length : Int) := by omega
      have HLE : Hid ((ps.take i).flatten.length + ps[i].length ≤ 140737488355328) := by have := HL.out; exact Lib.hid (by omega)
      clear hr hb1 hts hle hcell hby how hfl hsb
      generalize ps[i] = Y at *
      generalize (ps.take i).flatten = X at *
      go_wp2_with (at_builtin; refine wpList_append_bytes _ rfl _ _ rfl (.slice ma X.length mc) (.slice ua Y.length uc) X.length (X.map byteV) rfl rfl HROW.out HB1.out HLE.out ?_; intro a3 c3 w3 hr3 hg3 hat3; have h3 := Row.app HR.out (Only.refl _ _) rfl hr3 hg3 hat3; rw [← HTS.out] at h3; have H3 := Lib.hid h3; clear hr3 hg3 hat3 h3)
      exact ⟨⟨i + 1, by omega, by go_num, H3.out⟩, by simp [intOf]; omega⟩
    · have e : ps.take i = ps := List.take_of_length_le (by omega)
      rw [e] at hr ⊢
      have hfil := filled_any hr.bytes (fun _ h => h) (by have := HL.out; omega)
      have HFIL := Lib.hid hfil; have HR := Lib.hid hr
      clear hr hfil hfl e
      obtain ⟨m, hm⟩ : ∃ m, ps.flatten = m := ⟨_, rfl⟩
      have HM := Lib.hid hm
      rw [hm] at HFIL HR HL
      rw [hm]
      clear hm
      go_wp2_with (first
        | (go_at_call 33; refine HFIL.out.mono ?_; rintro e w3 ⟨a3, c3, rfl, hr3⟩; have HR3 := Lib.hid hr3; clear hr3)
        | (refine wpList_build_as rfl 60 _ rfl hpairs (by simp [go_sem]; rfl) (scells Sh.h0).toArray built_h ?_)
        | (refine wpList_store_row rfl 60 (.tmp 6) (.tmp 38) rfl w3.heap.size (scells Sh.h0).toArray rfl rfl 60 (scells zero8).toArray (heap_alloc_last _ _) size_8w rfl (oneCell_words _) ?_; rw [World.setRow_alloc_new]; have HH4 := Lib.hid (Blk.new w3 (scells Sh.h0) 60); have HR4 := Lib.hid (HR3.out.kept (Only.alloc (.cells (scells Sh.h0).toArray 60))); generalize w3.alloc (.cells (scells Sh.h0).toArray 60) = w4 at *))
      obtain ⟨M, hM⟩ : ∃ M, m ++ Sh.pad m.length = M := ⟨_, rfl⟩
      have hMl : m.length + (Sh.pad m.length).length = M.length := by rw [← hM, List.length_append]
      have hM64 : M.length % 64 = 0 := by rw [← hMl, pad_len]; unfold Sh.noughts; omega
      have hM40 : M.length ≤ 1099511627776 := by have := HL.out; have := noughts_lt m.length; rw [← hMl, pad_len]; omega
      rw [hMl]
      have hr4 := HR4.out.base (HO2.out.trans HR.out.only)
      rw [hM] at hr4
      have hst : RefIn w w4 (w.heap.size + 1) w3.heap.size (.slice a3 M.length c3) M (Sh.after M 0) := by
        have ho : Only (fun _ => False) w2 w4 := HR.out.only.trans HR4.out.only
        exact ⟨HR2.out.keep ho (fun x => x), HK2.out.keep ho (fun x => x), HH4.out, hr4, by omega, Nat.le_trans (HO2.out.trans HR.out.only).size HR3.out.only.size⟩
      have hne0 : M ≠ [] := by rintro rfl; rw [pad_len] at hMl; simp at hMl
      obtain ⟨g, rfl, hcell⟩ := row_cell hst.row hne0
      have hgg : g ≠ w3.heap.size := hst.h.ne_row hst.row.row (by decide) rfl
      have hrl : w.heap.size < w3.heap.size := Nat.lt_of_lt_of_le (Nat.lt_of_lt_of_le HR2.out.lt HR.out.only.size) HR3.out.only.size
      have hgk : w.heap.size + 1 ≠ w3.heap.size := by
        have h1 := HK2.out.lt
        have h2 := Nat.le_trans HR.out.only.size HR3.out.only.size
        omega
      have hbl := blocks_of hM64 hM40
      have HLAST : Hid (Sh.sum m = Sh.out (Sh.after M (M.length / 64))) := by
        unfold Sh.sum
        rw [hM, ← hMl, pad_len, Nat.add_assoc]
        exact Lib.hid rfl
      have HST := Lib.hid hst; have HGG := Lib.hid hgg; have HGK := Lib.hid hgk; have HRL := Lib.hid hrl
      clear hst hr4 hM hMl HR4 HH4 HR3 HR HFIL HR2 HK2 hgg hgk hrl hne0 hM64 hM40
      refine ref_blks _ _ _ _ _ _ _ _ _ _ _ _ _ _ _ _ _ _ _ _ _ _ _ _ _ _ _ _ _ _ _ _ _ _ _ _ _ _ _ _ _ _ _ _ _ _ _ _ _ _ _ _ _ _ _ _ _ _ _ _ _ _ _ _ _ _ _ _ _ _ _ _ _ _ _ _ _ _ _ _ _ _ _ _ _ _ _ _ _ _ _ _ _ _ _ _ _ _ _ _ _ _ _ _ _ _ _ _ _ _ _ _ _ _ _ _ _ _ _ _ _ _ _ _ _ _ _ _ _ _ _ _ _ _ _ _ _ _ _ _ _ _ _ _ _ _ _ _ _ _ _ _ _ _ _ _ _ _ _ _ _ _ _ _ _ _ _ _ _ _ _ _ _ _ _ _ _ _ _ _ _ _ _ _ _ _ _ _ _ _ _ _ _ _ _ _ _ _ _ _ _ _ _ _ _ _ _ _ _ _ _ _ _ _ _ _ _ _ _ _ _ _ _ _ _ _ _ _  (w := w4) (K := Sh.ks) (m := M) (y := fun A => Sh.after M (A / 64))  hbl HST.out.k HST.out.h hcell HGK.out HGG.out _ ?_
      intro u7 u8 u9 u10 u11 u12 u13 u14 u15 u16 u17 u18 u19 u20 u39 u40 u41 u42 u43 u44 u45 u46 u47 u48 u49 u50 u51 u52 u53 u54 u55 u56 u57 u58 u59 u60 u61 u62 u63 u64 u65 u66 u67 u68 u69 u70 u71 u72 u73 u74 u75 u76 u77 u78 u79 u80 u81 u82 u83 u84 u85 u86 u87 u88 u89 u90 u91 u92 u93 u94 u95 u96 u97 u98 u99 u100 u101 u102 u103 u104 u105 u106 u107 u108 u109 u110 u111 u112 u113 u114 u115 u116 u117 u118 u119 u120 u121 u122 u123 u124 u125 u126 u127 u128 u129 u130 u131 u132 u133 u134 u135 u136 u137 u138 u139 u140 u141 u142 u143 u144 u145 u146 u147 u148 u149 u150 u151 u152 u153 u154 u155 u156 u157 u158 u159 u160 u161 u162 u163 u164 u165 u166 u167 u168 u169 u170 u171 u172 u173 u174 u175 u176 u177 u178 u179 u180 u181 u182 u183 u184 u185 u186 u187 u188 u189 u190 u191 u192 u193 u194 u195 u196 u197 u198 u199 u200 u201 u202 u203 u204 u205 u206 u207 u208 u209 u210 u211 u212 w5 hh5 ho5
      obtain ⟨s5, hs5⟩ : ∃ s5, Sh.after M (M.length / 64) = s5 := ⟨_, rfl⟩
      have hh5' : Blk w5 w3.heap.size (scells s5) 60 := by rw [← hs5]; exact hh5
      rw [hs5] at HLAST
      have HH5 := Lib.hid hh5'
      have HRES5 := Lib.hid (HST.out.res.keep ho5 (by have := HRL.out; omega))
      have HO5 : Hid (Only (fun _ => False) w w5) := Lib.hid (HST.out.row.only.andThen ho5 (fun k hk e => by have := HRL.out; omega))
      clear hh5 ho5 hh5' hs5 hbl hcell HST
      go_wp2_with (first
        | (refine wpList_build_as rfl 26 #[] rfl [] (by simp [go_sem]) (ocells 32 []).toArray built_o ?_)
        | (refine wpList_store_row rfl 26 (.tmp 21) (.tmp 213) rfl w5.heap.size (ocells 32 []).toArray rfl rfl 26 (ocells 32 []).toArray (heap_alloc_last _ _) size_32b rfl (oneCell_bytes (List.replicate 32 0)) ?_; rw [World.setRow_alloc_new]; have HB6 := Lib.hid (Blk.new w5 (ocells 32 []) 26); have HO6 : Hid (Only (fun _ => False) w5 (w5.alloc (.cells (ocells 32 []).toArray 26))) := Only.alloc _; generalize w5.alloc (.cells (ocells 32 []).toArray 26) = w6 at *))
      have HH6 := Lib.hid (HH5.out.keep HO6.out (fun x => x))
      have HNE : Hid (w3.heap.size ≠ w5.heap.size) := Lib.hid (by have := HH5.out.lt; omega)
      refine ref_out _ _ _ _ _ _ _ _ _ _ _ _ _ _ _ _ _ _ _ _ _ _ _ _ _ _ _ _ _ _ _ _ _ _ _ _ _ _ _ _ _ _ _ _ _ _ _ _ _ _ _ _ _ _ _ _ _ _ _ _ _ _ _ _ _ _ _ _ _ _ _ _ _ _ _ _ _ _ _ _ _ _ _ _ _ _ _ _ _ _ _ _ _ _ _ _ _ _ _ _ _ _ _ _ _ _ _ _ _ _ _ _ _ _ _ _ _ _ _ _ _ _ _ _ _ _ _ _ _ _ _ _ _ _ _ _ _ _ _ _ _ _ _ _ _ _ _ _ _ _ _ _ _ _ _ _ _ _ _ _ _ _ _ _ _ _ _ _ _ _ _ _ _ _ _ _ _ _ _ _ _ _ _ _ _ _ _ _ _ _ _ _ _ _ _ _ _ _ _ _ _ _ _ _ _ _ _ _ _ _ _ _ _ _ _ _ _ _ _ _ _ _ _ _ _ _ _ _ _  (w := w6) (s := s5) (go := w5.heap.size)  HH6.out HB6.out HNE.out _ ?_
      intro u22 u214 u215 u216 u217 u218 u219 u220 u221 u222 u223 u224 u225 u226 u227 u228 u229 u230 w7 hr7 ho7
      have hres := (HRES5.out.keep HO6.out (fun x => x)).keep ho7 (by have := HRES5.out.lt; omega)
      have hrow : Blk w7 w5.heap.size ((Sh.out s5).map byteV) 26 := by rw [← ocells_full (out_len s5)]; exact hr7
      have ho : Only (fun _ => False) w w7 := (HO5.out.trans HO6.out).andThen ho7 (fun k hk e => by have := HO5.out.size; omega)
      have HRES := Lib.hid hres.heap
      have HROW := Lib.hid hrow.heap
      have HFIN : Hid ((w7.setRow w.heap.size ((Sh.out s5).map byteV).toArray).heap[w.heap.size]? = some (.cells ((Sh.out s5).map byteV).toArray 26 (0, 0)) ∧ Only (fun _ => False) w (w7.setRow w.heap.size ((Sh.out s5).map byteV).toArray)) :=
        ⟨hres.row _, ho.andThen (Only.setRow _ _) (fun k hk e => by omega)⟩
      have esz : ((Sh.out s5).map byteV).toArray.size = 32 := by simp [out_len]
      have hsz : (Tryd.prog.info? 26).map (·.size) = some ((Sh.out s5).map byteV).toArray.size := by
        rw [esz]; kernel_rfl
      have hwz : (ocells 32 []).toArray.size = ((Sh.out s5).map byteV).toArray.size := by
        rw [esz]; simp [ocells]
      have hone := oneCell_bytes (Sh.out s5)
      have HSZ := Lib.hid hsz; have HWZ := Lib.hid hwz; have HONE := Lib.hid hone
      clear hrow hres esz hsz hwz hone ho hr7 ho7 HRES5 HO6 HB6 HH6 HH5 HO5
      generalize hA : ((Sh.out s5).map byteV).toArray = A at *
      have HA := Lib.hid hA
      clear hA
      generalize (ocells 32 []).toArray = Z at *
      go_wp2_with (first
        | (refine wpList_load_row rfl 26 (.tmp 21) rfl w5.heap.size rfl 26 A (0, 0) _ HROW.out Tryd.underlying26 rfl HSZ.out ?_)
        | (refine wpList_store_row rfl 26 (.tmp 2) (.tmp 231) rfl w.heap.size A rfl rfl 26 Z HRES.out HSZ.out HWZ.out HONE.out ?_))
      refine bodyPost_ret (v := .agg A) (results_cell_row rfl _ _ w.heap.size 26 A (0, 0) _ rfl HFIN.out.1 Tryd.underlying26 rfl HSZ.out) rfl ⟨?_, HFIN.out.2⟩
      rw [HM.out, HLAST.out, ← HA.out]
      rfl

end Go.Proofs.YtdgaojibfpafnaaDoor
