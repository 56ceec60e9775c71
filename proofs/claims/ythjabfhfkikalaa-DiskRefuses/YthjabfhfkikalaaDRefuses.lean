/- The law DiskRefuses. Conditions: rows within reach. -/
import Derived.Test.YthjabfhfkikalaaRefuse
import Derived.Test.YthjabfhfkikalaaTwice
namespace Go.Proofs.Ythjabfhfkikalaa
open Go.RowKit Go.Maps Go.WideMaps

theorem rep_high {w : World} {b : Nat} {ρ : Roles} {L : Lay} {s : Dm.St} (h : Rep w b ρ L s) {k : Nat} (hk : w.heap.size ≤ k) : ρ k = none := by
  cases hx : ρ k with
  | none => rfl
  | some r => have := h.low k (by rw [hx]; simp); omega
theorem wf_all_len {s : Dm.St} (h : s.WF) : s.all.length ≤ 4096 := by
  have := h.dir.len
  simpa [Dm.St.all] using this

/-- The disk, after k calls. -/
def OneInv (w0 wr : World) (b k : Nat) : Prop := ∃ ρ L s, Rep wr b ρ L s ∧ Beside w0 wr ρ ∧ s.WF ∧ s.steps ≤ k ∧ s.chg.length ≤ k

theorem cutAll_steps (cuts : List Int) (d : Dm.Dir) : ∀ (n : Nat) (s : Dm.St), (Dm.cutAll cuts n d s).steps = s.steps := by
  induction d with
  | nil => intro n s; rfl
  | cons p r ih => intro n s; unfold Dm.cutAll; rw [ih]; rfl
theorem crash_steps (s : Dm.St) (dirs : Int) (cuts : List Int) : (s.crash dirs cuts).steps = s.steps := by
  unfold Dm.St.crash
  exact cutAll_steps cuts _ 0 _

theorem eql_nil_io (w : World) : (binOp .eql 35 .nilIface (.iface 46 (.int .i64 2))).run Try.prog w = .ok (.bool false) w := by kernel_rfl
theorem eql_io (n : Nat) (w : World) : (binOp .eql 35 (.iface 46 (.int .i64 n)) (.iface 46 (.int .i64 2))).run Try.prog w = .ok (.bool ((n : Int) == 2)) w := by kernel_rfl
theorem neq_io (n : Nat) (w : World) : (binOp .neq 35 (.iface 46 (.int .i64 n)) (.iface 46 (.int .i64 2))).run Try.prog w = .ok (.bool (!((n : Int) == 2))) w := by kernel_rfl

theorem playS_crash (s : Dm.St) (o : OpD) (h : o.kind = 10) : playS s o = (0, s) := by
  unfold playS
  simp [h]

set_option maxRecDepth 100000 in
set_option maxHeartbeats 4000000 in
theorem refuses_in {w : World} {S : Nat → Prop} (hlt : ∀ k, S k → k < w.heap.size) {sv : Value} {l : List (OpD × Value × Value)} (hs : ScriptAt w S sv l) (hll : l.length < 2 ^ 47) :
    Calls Try.prog 4 #[sv] w fun e w' => e = .returned (.bool true) ∧ Only (fun _ => False) w w' := by
  obtain ⟨sa, sc, hss⟩ := hs.shape
  subst hss
  have HS := Lib.hid hs; have HLT := Lib.hid hlt
  have hal := alive_any w
  have hlg : ∀ w1, Only (fun _ => False) w w1 → Calls Try.prog 10 #[.slice sa l.length sc] w1 fun e w' => e = .returned (.bool (longS 0 (l.map (·.1)))) ∧ Only (fun _ => False) w1 w' := by
    intro w1 ho
    exact long_any (HS.out.kept (fun k hk => ho.block k (HLT.out k hk) (fun x => x)) (fun _ h => h)) (fun k hk => Nat.lt_of_lt_of_le (HLT.out k hk) ho.size) hll
  clear hs hlt hll
  cases hbig : longS 0 (l.map (·.1)) with
  | true =>
    rw [hbig] at hlg
    clear hbig
    go_enter Try.func4, Try.ntmps4
    go_wp2_with (first
      | (go_at_call 9; refine hal.mono ?_; rintro e w1 ⟨rfl, ho1⟩; have hl1 := hlg w1 ho1; have HO1 := Lib.hid ho1; clear ho1 hal hlg)
      | (go_at_call 10; refine hl1.mono ?_; rintro e w2 ⟨rfl, ho2⟩; have HO2 := Lib.hid ho2; clear ho2 hl1))
    go_ret
    exact ⟨rfl, HO1.out.trans HO2.out⟩
  | false =>
    rw [hbig] at hlg
    have hlen : l.length ≤ 327 := by
      have := (longS_false hbig).1
      by_cases h : l = []
      · subst h; simp
      · have h2 := this (by simpa using h)
        simp at h2; omega
    have HLG := Lib.hid hlg
    clear hbig hlg
    go_enter Try.func4, Try.ntmps4
    go_wp2_with (first
      | (go_at_call 9; refine hal.mono ?_; rintro e w1 ⟨rfl, ho1⟩; have hl1 := HLG.out w1 ho1; have HO1 := Lib.hid ho1; clear ho1 hal HLG)
      | (go_at_call 10; refine hl1.mono ?_; rintro e w2 ⟨rfl, ho2⟩; have HO2 := Lib.hid ho2; have hnew := new_ok 60 w2 (by omega); clear ho2 hl1)
      | (go_at_call 11; refine hnew.mono ?_; rintro e w3 ⟨b, ρ3, L3, rfl, h3, ho3, hn3, hb3⟩; have H3 := Lib.hid h3; have HO3 := Lib.hid ho3; have HN3 := Lib.hid hn3; clear h3 ho3 hn3 hb3 hnew))
    have HT0 : Hid (OneInv w w3 b 0) := by
      have z1 := HO1.out.size
      have z2 := HO2.out.size
      exact ⟨ρ3, L3, Dm.St.new 60, H3.out, ⟨(HO1.out.trans HO2.out).trans HO3.out, fun k hk => HN3.out k (by omega)⟩, Dm.St.WF.new (by omega), by simp [Dm.St.new], by simp [Dm.St.new]⟩
    clear H3 HO1 HO2 HO3 HN3
    go_loopw [26] (fun iv wr => ∃ (k : Nat), k ≤ l.length ∧ iv = .int .i64 k ∧ OneInv w wr b k) (fun iv _ => l.length - (intOf iv).toNat)
    case atStart => exact ⟨0, Nat.zero_le _, rfl, HT0.out⟩
    case round =>
      obtain ⟨k, hk, rfl, ρ, L, s, hrp, hbs, hwf, hst, hch⟩ := hrel
      by_cases hlt : k < l.length
      · obtain ⟨g, o, ha, hSg, hcell, hop⟩ := (HS.out.kept (w' := wr) (S' := fun j => j < wr.heap.size ∧ ρ j = none) (fun j hj => hbs.only.block j (HLT.out j hj) (fun x => x)) (fun j hj => ⟨Nat.lt_of_lt_of_le (HLT.out j hj) hbs.only.size, hbs.none j (HLT.out j hj)⟩)).at_ hlt
        subst ha
        generalize l[k].1 = od at *
        generalize l[k].2.1 = odv at *
        generalize l[k].2.2 = ocv at *
        obtain ⟨oda, odc, hods⟩ := hop.data.shape
        obtain ⟨oca, occ, hocs⟩ := hop.cuts.shape
        subst hods hocs
        obtain ⟨kind, name, dst, odata, n, m, odirs, ocuts⟩ := od
        simp only [opCells] at hcell
        have c0 := hcell 0 _ rfl
        have c1 := hcell 1 _ rfl
        have c2 := hcell 2 _ rfl
        have c3 := hcell 3 _ rfl
        have c4 := hcell 4 _ rfl
        have c5 := hcell 5 _ rfl
        have c6 := hcell 6 _ rfl
        have c7 := hcell 7 _ rfl
        rw [Nat.add_zero] at c0
        clear hcell
        have hoX : Only (fun _ => False) wr (wr.alloc (.cells #[.int .i64 kind, .string name, .string dst, .slice oda odata.length odc, .int .i64 n, .int .i64 m, .int .i64 odirs, .slice oca ocuts.length occ] 39)) := Only.alloc _
        have hbox := heap_alloc_new wr (.cells #[.int .i64 kind, .string name, .string dst, .slice oda odata.length odc, .int .i64 n, .int .i64 m, .int .i64 odirs, .slice oca ocuts.length occ] 39)
        have HRF := Lib.hid (playS_refused s ⟨kind, name, dst, odata, n, m, odirs, ocuts⟩)
        have HCN := Lib.hid (playS_counts s ⟨kind, name, dst, odata, n, m, odirs, ocuts⟩)
        have HW3 := Lib.hid (playS_WF hwf ⟨kind, name, dst, odata, n, m, odirs, ocuts⟩ hop.nlt)
        have HBN := Lib.hid (rep_high hrp (Nat.le_refl _))
        have hrpX := hrp.only_none hoX
        have HFI := Lib.hid (files_rep hrpX hwf)
        have HBOX := Lib.hid hbox
        -- the call, in any world that has grown by new memory
        have HPL : Hid (∀ w2, Only (fun _ => False) (wr.alloc (.cells #[.int .i64 kind, .string name, .string dst, .slice oda odata.length odc, .int .i64 n, .int .i64 m, .int .i64 odirs, .slice oca ocuts.length occ] 39)) w2 → Calls Try.prog 13 #[.pointer (some ⟨b, 0, none⟩)] w2 (fun e w' => e = .returned (.int .i64 s.steps) ∧ w2 = w') ∧ w2.heap[wr.heap.size]? = some (.cells #[.int .i64 kind, .string name, .string dst, .slice oda odata.length odc, .int .i64 n, .int .i64 m, .int .i64 odirs, .slice oca ocuts.length occ] 39) ∧
            Calls Try.prog 14 #[.pointer (some ⟨b, 0, none⟩), .agg #[.int .i64 kind, .string name, .string dst, .slice oda odata.length odc, .int .i64 n, .int .i64 m, .int .i64 odirs, .slice oca ocuts.length occ]] w2 fun e w3 => e = .returned (errV (playS s ⟨kind, name, dst, odata, n, m, odirs, ocuts⟩).1) ∧ w3.heap[wr.heap.size]? = some (.cells #[.int .i64 kind, .string name, .string dst, .slice oda odata.length odc, .int .i64 n, .int .i64 m, .int .i64 odirs, .slice oca ocuts.length occ] 39) ∧ (∀ k, k < w2.heap.size → wr.heap.size ≤ k → w3.heap[k]? = w2.heap[k]?) ∧ w2.heap.size ≤ w3.heap.size ∧
              ∃ ρ3 L3, Rep w3 b ρ3 L3 (playS s ⟨kind, name, dst, odata, n, m, odirs, ocuts⟩).2 ∧ Beside w w3 ρ3 ∧ OpAt w3 (fun j => j < w3.heap.size ∧ ρ3 j = none) ⟨kind, name, dst, odata, n, m, odirs, ocuts⟩ (.slice oda odata.length odc) (.slice oca ocuts.length occ)) := by
          intro w2 ho2
          have ho := hoX.trans ho2
          have hB2 : w2.heap[wr.heap.size]? = some (.cells #[.int .i64 kind, .string name, .string dst, .slice oda odata.length odc, .int .i64 n, .int .i64 m, .int .i64 odirs, .slice oca ocuts.length occ] 39) := (ho2.block _ (by simp) (fun x => x)).trans hbox
          have hr2 := hrp.only_none ho
          refine ⟨steps_rep hr2, hB2, ?_⟩
          have ho2' := hop.kept (w' := w2) (S' := fun j => j < w2.heap.size ∧ ρ j = none) (fun j hj => ho.block j hj.1 (fun x => x)) (fun j hj => ⟨Nat.lt_of_lt_of_le hj.1 ho.size, hj.2⟩)
          refine (play_rep hr2 hwf (by omega) (by omega) ⟨kind, name, dst, odata, n, m, odirs, ocuts⟩ _ _ ho2').mono ?_
          rintro e w3 ⟨rfl, ρ3, L3, h3, m3⟩
          refine ⟨rfl, (m3.only.block _ (by have := ho2.size; simp at this; omega) (fun e => e HBN.out)).trans hB2, fun k hk hge => m3.only.block k hk (fun e => e (rep_high hrp hge)), m3.only.size, ρ3, L3, h3, (hbs.move (Moves.none ho)).move m3, ho2'.kept (fun j hj => m3.only.block j hj.1 (fun e => e hj.2)) (fun j hj => ⟨Nat.lt_of_lt_of_le hj.1 m3.only.size, (m3.old j hj.1).trans hj.2⟩)⟩
        have HKC : Hid (s.steps ≤ k ∧ s.chg.length ≤ k) := ⟨hst, hch⟩
        have HKP := Lib.hid (playS_crash s ⟨kind, name, dst, odata, n, m, odirs, ocuts⟩)
        have HWL := Lib.hid (wf_all_len hwf)
        clear hrp hbs hwf hst hch hop hSg hoX hrpX hbox HT0
        by_cases hk10 : kind = 10
        · have e10 : (kind == 10) = true := by simp [hk10]
          have hpe := HKP.out hk10
          rw [hpe] at HPL HW3
          clear hpe hk10
          go_wp2_with (first
            | (go_at_call 12; refine HFI.out.mono ?_; rintro e w4 ⟨v4, rfl, hf4, ho4⟩; obtain ⟨hst4, hB4, hpl4⟩ := HPL.out _ ho4; have y0 : w4.cell? ⟨wr.heap.size, 0, none⟩ = some (Value.int .i64 kind) := cell_of hB4 0; have y1 : w4.cell? ⟨wr.heap.size, 1, none⟩ = some (Value.string name) := cell_of hB4 1; have y2 : w4.cell? ⟨wr.heap.size, 2, none⟩ = some (Value.string dst) := cell_of hB4 2; have y3 : w4.cell? ⟨wr.heap.size, 3, none⟩ = some (Value.slice oda odata.length odc) := cell_of hB4 3; have y4 : w4.cell? ⟨wr.heap.size, 4, none⟩ = some (Value.int .i64 n) := cell_of hB4 4; have y5 : w4.cell? ⟨wr.heap.size, 5, none⟩ = some (Value.int .i64 m) := cell_of hB4 5; have y6 : w4.cell? ⟨wr.heap.size, 6, none⟩ = some (Value.int .i64 odirs) := cell_of hB4 6; have y7 : w4.cell? ⟨wr.heap.size, 7, none⟩ = some (Value.slice oca ocuts.length occ) := cell_of hB4 7; clear hf4 ho4 hB4 HPL HFI c0 c1 c2 c3 c4 c5 c6 c7)
            | (go_at_call 13; refine hst4.mono ?_; rintro e w' ⟨rfl, rfl⟩)
            | (go_at_call 14; refine hpl4.mono ?_; rintro e w5 ⟨rfl, hB5, -, -, ρ5, L5, h5, hb5, hop5⟩; have z0 : w5.cell? ⟨wr.heap.size, 0, none⟩ = some (Value.int .i64 kind) := cell_of hB5 0; have z1 : w5.cell? ⟨wr.heap.size, 1, none⟩ = some (Value.string name) := cell_of hB5 1; have z2 : w5.cell? ⟨wr.heap.size, 2, none⟩ = some (Value.string dst) := cell_of hB5 2; have z3 : w5.cell? ⟨wr.heap.size, 3, none⟩ = some (Value.slice oda odata.length odc) := cell_of hB5 3; have z4 : w5.cell? ⟨wr.heap.size, 4, none⟩ = some (Value.int .i64 n) := cell_of hB5 4; have z5 : w5.cell? ⟨wr.heap.size, 5, none⟩ = some (Value.int .i64 m) := cell_of hB5 5; have z6 : w5.cell? ⟨wr.heap.size, 6, none⟩ = some (Value.int .i64 odirs) := cell_of hB5 6; have z7 : w5.cell? ⟨wr.heap.size, 7, none⟩ = some (Value.slice oca ocuts.length occ) := cell_of hB5 7; have hcr := crash_rep h5 HW3.out odirs _ ocuts hop5.cuts (Nat.lt_of_le_of_lt HKC.out.2 (by omega)); have HB5 := Lib.hid hb5; clear h5 hb5 hop5 hB5 hpl4 hst4 y0 y1 y2 y3 y4 y5 y6 y7)
            | (go_at_call 15; refine hcr.mono ?_; rintro e w6 ⟨rfl, ρ6, L6, h6, m6⟩; have HFIN : Hid (OneInv w w6 b (k + 1)) := ⟨ρ6, L6, _, h6, HB5.out.move m6, HW3.out.crash _ _, by rw [crash_steps]; exact Nat.le_trans HKC.out.1 (Nat.le_succ k), by rw [(Dm.crash_still _ odirs ocuts).chg]; simp⟩; clear h6 m6 hcr z0 z1 z2 z3 z4 z5 z6 z7))
          go_roundw
          case rel => exact ⟨k + 1, by omega, by go_num, HFIN.out⟩
          case measure => simp [intOf]; omega
        · have e10 : (kind == 10) = false := by simpa using hk10
          generalize hr : playS s ⟨kind, name, dst, odata, n, m, odirs, ocuts⟩ = r at *
          obtain ⟨en, t⟩ := r
          simp only at HPL HRF HCN HW3
          have HLT9 : Hid (∀ q, wr.heap.size + 1 ≤ q → wr.heap.size ≤ q) := fun q hq => by omega
          clear hk10 hr HKP
          by_cases hen : en = 0
          · subst hen
            rw [errV_zero] at HPL
            have q1 := eql_nil_io
            go_wp2_with (first
              | (go_at_call 12; refine HFI.out.mono ?_; rintro e w4 ⟨v4, rfl, hf4, ho4⟩; obtain ⟨hst4, hB4, hpl4⟩ := HPL.out _ ho4; have y0 : w4.cell? ⟨wr.heap.size, 0, none⟩ = some (Value.int .i64 kind) := cell_of hB4 0; have y1 : w4.cell? ⟨wr.heap.size, 1, none⟩ = some (Value.string name) := cell_of hB4 1; have y2 : w4.cell? ⟨wr.heap.size, 2, none⟩ = some (Value.string dst) := cell_of hB4 2; have y3 : w4.cell? ⟨wr.heap.size, 3, none⟩ = some (Value.slice oda odata.length odc) := cell_of hB4 3; have y4 : w4.cell? ⟨wr.heap.size, 4, none⟩ = some (Value.int .i64 n) := cell_of hB4 4; have y5 : w4.cell? ⟨wr.heap.size, 5, none⟩ = some (Value.int .i64 m) := cell_of hB4 5; have y6 : w4.cell? ⟨wr.heap.size, 6, none⟩ = some (Value.int .i64 odirs) := cell_of hB4 6; have y7 : w4.cell? ⟨wr.heap.size, 7, none⟩ = some (Value.slice oca ocuts.length occ) := cell_of hB4 7; have HF4 := Lib.hid hf4; have HZ4 : Hid (wr.heap.size ≤ w4.heap.size) := Nat.le_trans (by simp) ho4.size; clear hf4 ho4 hB4 HPL HFI c0 c1 c2 c3 c4 c5 c6 c7)
              | (go_at_call 13; refine hst4.mono ?_; rintro e w' ⟨rfl, rfl⟩)
              | (go_at_call 14; refine hpl4.mono ?_; rintro e w5 ⟨rfl, hB5, -, -, ρ5, L5, h5, hb5, -⟩; have z0 : w5.cell? ⟨wr.heap.size, 0, none⟩ = some (Value.int .i64 kind) := cell_of hB5 0; have HFIN : Hid (OneInv w w5 b (k + 1)) := ⟨ρ5, L5, t, h5, hb5, HW3.out, Nat.le_trans HCN.out.1 (Nat.succ_le_succ HKC.out.1), Nat.le_trans HCN.out.2 (Nat.succ_le_succ HKC.out.2)⟩; clear h5 hb5 hB5 hpl4 hst4 y0 y1 y2 y3 y4 y5 y6 y7))
            go_roundw
            case rel => exact ⟨k + 1, by omega, by go_num, HFIN.out⟩
            case measure => simp [intOf]; omega
          · have hall := HRF.out.all hen
            have hstep1 := HRF.out.stay hen
            have hstep2 := HRF.out.io
            simp only at hall hstep1 hstep2
            rw [errV_pos hen] at HPL
            have HEN := Lib.hid hen
            have hb62 : (s.steps : Int) ≤ 327 := by have := HKC.out.1; omega
            by_cases h2 : en = 2
            · subst h2
              have hst' := hstep2 rfl
              have HALL := Lib.hid hall; have HSTE := Lib.hid hst'
              clear hall hstep1 hstep2 hst' hen
              have q1 : ∀ w : World, (binOp .eql 35 (.iface 46 (.int .i64 2)) (.iface 46 (.int .i64 2))).run Try.prog w = .ok (.bool true) w := eql_io 2
              have q2 : ∀ w : World, (binOp .neq 35 (.iface 46 (.int .i64 2)) (.iface 46 (.int .i64 2))).run Try.prog w = .ok (.bool false) w := neq_io 2
              go_wp2_with (first
                | (go_at_call 12; refine HFI.out.mono ?_; rintro e w4 ⟨v4, rfl, hf4, ho4⟩; obtain ⟨hst4, hB4, hpl4⟩ := HPL.out _ ho4; have y0 : w4.cell? ⟨wr.heap.size, 0, none⟩ = some (Value.int .i64 kind) := cell_of hB4 0; have y1 : w4.cell? ⟨wr.heap.size, 1, none⟩ = some (Value.string name) := cell_of hB4 1; have y2 : w4.cell? ⟨wr.heap.size, 2, none⟩ = some (Value.string dst) := cell_of hB4 2; have y3 : w4.cell? ⟨wr.heap.size, 3, none⟩ = some (Value.slice oda odata.length odc) := cell_of hB4 3; have y4 : w4.cell? ⟨wr.heap.size, 4, none⟩ = some (Value.int .i64 n) := cell_of hB4 4; have y5 : w4.cell? ⟨wr.heap.size, 5, none⟩ = some (Value.int .i64 m) := cell_of hB4 5; have y6 : w4.cell? ⟨wr.heap.size, 6, none⟩ = some (Value.int .i64 odirs) := cell_of hB4 6; have y7 : w4.cell? ⟨wr.heap.size, 7, none⟩ = some (Value.slice oca ocuts.length occ) := cell_of hB4 7; have HF4 := Lib.hid hf4; have HZ4 : Hid (wr.heap.size ≤ w4.heap.size) := Nat.le_trans (by simp) ho4.size; clear hf4 ho4 hB4 HPL HFI c0 c1 c2 c3 c4 c5 c6 c7)
                | (go_at_call 13; refine hst4.mono ?_; rintro e w' ⟨rfl, rfl⟩)
                | (go_at_call 14; refine hpl4.mono ?_; rintro e w5 ⟨rfl, hB5, hkp5, hz5, ρ5, L5, h5, hb5, -⟩; have z0 : w5.cell? ⟨wr.heap.size, 0, none⟩ = some (Value.int .i64 kind) := cell_of hB5 0; have HFIN5 : Hid (∀ w6, Only (fun _ => False) w5 w6 → OneInv w w6 b (k + 1)) := (fun w6 ho6 => ⟨ρ5, L5, t, h5.only_none ho6, hb5.move (Moves.none ho6), HW3.out, Nat.le_trans HCN.out.1 (Nat.succ_le_succ HKC.out.1), Nat.le_trans HCN.out.2 (Nat.succ_le_succ HKC.out.2)⟩); have HF5 := Lib.hid (HF4.out.kept (w' := w5) (S' := fun q => q < w5.heap.size) (fun q hq => hkp5 q hq.2 (Nat.le_trans (by simp) hq.1)) (fun q hq => Nat.lt_of_lt_of_le hq.2 hz5)); have hfi5 := files_rep h5 HW3.out; rw [HALL.out] at hfi5; have H5 := Lib.hid h5; clear h5 hb5 hB5 hkp5 hz5 hpl4 hst4 y0 y1 y2 y3 y4 y5 y6 y7)
                | (go_at_call 12; refine hfi5.mono ?_; rintro e w6 ⟨v6, rfl, hf6, ho6⟩; have hnf := numFiles_same (HF5.out.kept (w' := w6) (S' := fun q => q < w6.heap.size) (fun q hq => ho6.block q hq (fun x => x)) (fun q hq => Nat.lt_of_lt_of_le hq ho6.size)) hf6 HWL.out; have HO6 := Lib.hid ho6; clear hf6 ho6 hfi5)
                | (go_at_call 16; refine hnf.mono ?_; rintro e w7 ⟨rfl, ho7⟩; have hst7 := steps_rep (H5.out.only_none (HO6.out.trans ho7)); rw [HSTE.out] at hst7; have HFIN := Lib.hid (HFIN5.out _ (HO6.out.trans ho7)); clear ho7 hnf)
                | (go_at_call 13; refine hst7.mono ?_; rintro e w' ⟨rfl, rfl⟩))
              go_roundw
              case rel => exact ⟨k + 1, by omega, by go_num, HFIN.out⟩
              case measure => simp [intOf]; omega
            · have hst' := hstep1 h2
              have e2 : ((en : Int) == 2) = false := by rw [beq_eq_false_iff_ne]; omega
              have HALL := Lib.hid hall; have HSTE := Lib.hid hst'
              clear hall hstep1 hstep2 hst' hen h2
              have q1 := eql_io en
              have q2 := neq_io en
              simp only [e2, Bool.not_false] at q1 q2
              go_wp2_with (first
                | (go_at_call 12; refine HFI.out.mono ?_; rintro e w4 ⟨v4, rfl, hf4, ho4⟩; obtain ⟨hst4, hB4, hpl4⟩ := HPL.out _ ho4; have y0 : w4.cell? ⟨wr.heap.size, 0, none⟩ = some (Value.int .i64 kind) := cell_of hB4 0; have y1 : w4.cell? ⟨wr.heap.size, 1, none⟩ = some (Value.string name) := cell_of hB4 1; have y2 : w4.cell? ⟨wr.heap.size, 2, none⟩ = some (Value.string dst) := cell_of hB4 2; have y3 : w4.cell? ⟨wr.heap.size, 3, none⟩ = some (Value.slice oda odata.length odc) := cell_of hB4 3; have y4 : w4.cell? ⟨wr.heap.size, 4, none⟩ = some (Value.int .i64 n) := cell_of hB4 4; have y5 : w4.cell? ⟨wr.heap.size, 5, none⟩ = some (Value.int .i64 m) := cell_of hB4 5; have y6 : w4.cell? ⟨wr.heap.size, 6, none⟩ = some (Value.int .i64 odirs) := cell_of hB4 6; have y7 : w4.cell? ⟨wr.heap.size, 7, none⟩ = some (Value.slice oca ocuts.length occ) := cell_of hB4 7; have HF4 := Lib.hid hf4; have HZ4 : Hid (wr.heap.size ≤ w4.heap.size) := Nat.le_trans (by simp) ho4.size; clear hf4 ho4 hB4 HPL HFI c0 c1 c2 c3 c4 c5 c6 c7)
                | (go_at_call 13; refine hst4.mono ?_; rintro e w' ⟨rfl, rfl⟩)
                | (go_at_call 14; refine hpl4.mono ?_; rintro e w5 ⟨rfl, hB5, hkp5, hz5, ρ5, L5, h5, hb5, -⟩; have z0 : w5.cell? ⟨wr.heap.size, 0, none⟩ = some (Value.int .i64 kind) := cell_of hB5 0; have HFIN5 : Hid (∀ w6, Only (fun _ => False) w5 w6 → OneInv w w6 b (k + 1)) := (fun w6 ho6 => ⟨ρ5, L5, t, h5.only_none ho6, hb5.move (Moves.none ho6), HW3.out, Nat.le_trans HCN.out.1 (Nat.succ_le_succ HKC.out.1), Nat.le_trans HCN.out.2 (Nat.succ_le_succ HKC.out.2)⟩); have HF5 := Lib.hid (HF4.out.kept (w' := w5) (S' := fun q => q < w5.heap.size) (fun q hq => hkp5 q hq.2 (Nat.le_trans (by simp) hq.1)) (fun q hq => Nat.lt_of_lt_of_le hq.2 hz5)); have hfi5 := files_rep h5 HW3.out; rw [HALL.out] at hfi5; have H5 := Lib.hid h5; clear h5 hb5 hB5 hkp5 hz5 hpl4 hst4 y0 y1 y2 y3 y4 y5 y6 y7)
                | (go_at_call 12; refine hfi5.mono ?_; rintro e w6 ⟨v6, rfl, hf6, ho6⟩; have hnf := numFiles_same (HF5.out.kept (w' := w6) (S' := fun q => q < w6.heap.size) (fun q hq => ho6.block q hq (fun x => x)) (fun q hq => Nat.lt_of_lt_of_le hq ho6.size)) hf6 HWL.out; have HO6 := Lib.hid ho6; clear hf6 ho6 hfi5)
                | (go_at_call 16; refine hnf.mono ?_; rintro e w7 ⟨rfl, ho7⟩; have hst7 := steps_rep (H5.out.only_none (HO6.out.trans ho7)); rw [HSTE.out] at hst7; have HFIN := Lib.hid (HFIN5.out _ (HO6.out.trans ho7)); clear ho7 hnf)
                | (go_at_call 13; refine hst7.mono ?_; rintro e w' ⟨rfl, rfl⟩))
              go_roundw
              case rel => exact ⟨k + 1, by omega, by go_num, HFIN.out⟩
              case measure => simp [intOf]; omega
      · have hkl : k = l.length := by omega
        subst hkl
        have HFIN := Lib.hid hbs.only
        clear hrp hbs hwf hst hch HT0
        go_wp2
        go_ret
        exact ⟨rfl, HFIN.out⟩

end Go.Proofs.Ythjabfhfkikalaa
