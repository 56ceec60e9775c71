/- The law DiskTwice. Conditions: rows within reach. -/
import Derived.Test.YthjabfhfkikalaaTwice
import Derived.Deep.RegionHeld3
namespace Go.Proofs.Ythjabfhfkikalaa
open Go.RowKit Go.Maps Go.WideMaps

/-- Both disks, after k calls. -/
def TwoInv (w0 wr : World) (a b k : Nat) : Prop := ∃ ρ σ L M s, Two w0 wr a b ρ σ L M s s ∧ s.WF ∧ s.steps ≤ k ∧ s.chg.length ≤ k

theorem TwoInv.play {w0 w w' : World} {a b : Nat} {ρ σ : Roles} {L M : Lay} {s : Dm.St} (h : Two w0 w a b ρ σ L M s s) (ho : Only (fun _ => False) w w') (hwf : s.WF) (hst : s.steps < 2 ^ 62) (hch : s.chg.length < 2 ^ 32) (o : OpD) (dv cv : Value)
    (hop : OpAt w (fun k => k < w.heap.size ∧ ρ k = none ∧ σ k = none) o dv cv) :
    Calls Try.prog 14 #[.pointer (some ⟨a, 0, none⟩), .agg (opCells o dv cv)] w' fun e w1 => e = .returned (errV (playS s o).1) ∧ (∀ k, k < w.heap.size → ρ k = none → w1.heap[k]? = w.heap[k]?) ∧
      ∀ w2, Only (fun _ => False) w1 w2 → Calls Try.prog 14 #[.pointer (some ⟨b, 0, none⟩), .agg (opCells o dv cv)] w2 fun e w3 => e = .returned (errV (playS s o).1) ∧ (∀ k, k < w.heap.size → ρ k = none → σ k = none → w3.heap[k]? = w.heap[k]?) ∧ ∃ ρ' σ' L' M', Two w0 w3 a b ρ' σ' L' M' (playS s o).2 (playS s o).2 := by
  have h1 := h.rest ho
  have z1 := ho.size
  refine (play_rep h1.ra hwf hst hch o dv cv (hop.kept (fun k hk => ho.block k hk.1 (fun x => x)) (fun k hk => ⟨by omega, hk.2.1⟩))).mono ?_
  rintro e w1 ⟨rfl, ρ1, L1, r1, m1⟩
  have h2 := h1.left r1 m1
  have z2 := m1.only.size
  have kp : ∀ k, k < w.heap.size → ρ k = none → w1.heap[k]? = w.heap[k]? := fun k hk hn => (m1.only.block k (by omega) (fun e => e hn)).trans (ho.block k hk (fun x => x))
  refine ⟨rfl, kp, fun w2 ho2 => ?_⟩
  have h3 := h2.rest ho2
  have z3 := ho2.size
  refine (play_rep h3.rb hwf hst hch o dv cv (hop.kept (fun k hk => (ho2.block k (by omega) (fun x => x)).trans (kp k hk.1 hk.2.1)) (fun k hk => ⟨by omega, hk.2.2⟩))).mono ?_
  rintro e w3 ⟨rfl, σ3, M3, r3, m3⟩
  exact ⟨rfl, fun k hk h1 h2 => ((m3.only.block k (by omega) (fun e => e h2)).trans (ho2.block k (by omega) (fun x => x))).trans (kp k hk h1), ρ1, σ3, L1, M3, h3.right r3 m3⟩

theorem Rep.high {w : World} {b : Nat} {ρ : Roles} {L : Lay} {s : Dm.St} (h : Rep w b ρ L s) {k : Nat} (hk : w.heap.size ≤ k) : ρ k = none := by
  cases hx : ρ k with
  | none => rfl
  | some r => have := h.low k (by rw [hx]; simp); omega

theorem Dm.St.WF.all_len {s : Dm.St} (h : s.WF) : s.all.length ≤ 4096 := by
  have := h.dir.len
  simpa [Dm.St.all] using this

theorem only_drewN (w : World) (n : Nat) : Only (fun _ => False) w (w.drewN n) := ⟨rfl, rfl, rfl, Nat.le_refl _, fun _ _ _ => rfl⟩

set_option maxRecDepth 100000 in
set_option maxHeartbeats 4000000 in
theorem twice_in {w : World} {S : Nat → Prop} (hlt : ∀ k, S k → k < w.heap.size) {sv cv ev : Value} {l : List (OpD × Value × Value)} {cuts ecuts : List Int} (dirs edirs : Int)
    (hs : ScriptAt w S sv l) (hc : IntsAt w S cv cuts) (he : IntsAt w S ev ecuts) (hll : l.length < 2 ^ 47) :
    Calls Try.prog 5 #[sv, .agg #[.int .i64 dirs, cv], .agg #[.int .i64 edirs, ev]] w fun e w' => e = .returned (.bool true) ∧ Only (fun _ => False) w w' := by
  obtain ⟨ca, cc, hcs⟩ := hc.shape
  obtain ⟨ea, ec, hes⟩ := he.shape
  obtain ⟨sa, sc, hss⟩ := hs.shape
  subst hcs hes hss
  have HS := Lib.hid hs; have HLT := Lib.hid hlt; have HC := Lib.hid hc; have HE := Lib.hid he
  obtain ⟨w0, hw0⟩ : ∃ w0, w0 = (w.alloc (.cells #[.int .i64 dirs, .slice ca cuts.length cc] 26)).alloc (.cells #[.int .i64 edirs, .slice ea ecuts.length ec] 26) := ⟨_, rfl⟩
  have HOW : Hid (Only (fun _ => False) w w0) := by rw [hw0]; exact (Only.alloc _).trans (Only.alloc _)
  have hbx : w0.heap[w.heap.size]? = some (.cells #[.int .i64 dirs, .slice ca cuts.length cc] 26) := by
    rw [hw0, Below.heap_alloc _ _ _ (by simp)]; exact heap_alloc_new w _
  have hby : w0.heap[w.heap.size + 1]? = some (.cells #[.int .i64 edirs, .slice ea ecuts.length ec] 26) := by
    rw [hw0]
    have := heap_alloc_new (w.alloc (.cells #[.int .i64 dirs, .slice ca cuts.length cc] 26)) (.cells #[.int .i64 edirs, .slice ea ecuts.length ec] 26)
    rwa [World.size_alloc] at this
  have HBX := Lib.hid hbx; have HBY := Lib.hid hby
  have hal := alive_any w0
  have hlg : ∀ w1, Only (fun _ => False) w0 w1 → Calls Try.prog 10 #[.slice sa l.length sc] w1 fun e w' => e = .returned (.bool (longS 0 (l.map (·.1)))) ∧ Only (fun _ => False) w1 w' := by
    intro w1 ho
    have ho' := HOW.out.trans ho
    exact long_any (HS.out.kept (fun k hk => ho'.block k (HLT.out k hk) (fun x => x)) (fun _ h => h)) (fun k hk => Nat.lt_of_lt_of_le (HLT.out k hk) ho'.size) hll
  clear hs hc he hlt hll hbx hby
  cases hbig : longS 0 (l.map (·.1)) with
  | true =>
    rw [hbig] at hlg
    have HW0 := Lib.hid hw0
    subst hw0
    clear hbig HBX HBY
    go_enter Try.func5, Try.ntmps5
    go_wp2_with (first
      | (go_at_call 9; refine hal.mono ?_; rintro e w1 ⟨rfl, ho1⟩; have hl1 := hlg w1 ho1; have HO1 := Lib.hid ho1; clear ho1 hal hlg)
      | (go_at_call 10; refine hl1.mono ?_; rintro e w2 ⟨rfl, ho2⟩; have HO2 := Lib.hid ho2; clear ho2 hl1))
    go_ret
    exact ⟨rfl, (HOW.out.trans HO1.out).trans HO2.out⟩
  | false =>
    rw [hbig] at hlg
    have hlen : l.length ≤ 327 := by
      have := (longS_false hbig).1
      by_cases h : l = []
      · subst h; simp
      · have h2 := this (by simpa using h)
        simp at h2; omega
    have HLG := Lib.hid hlg
    clear hbig hlg
    subst hw0
    go_enter Try.func5, Try.ntmps5
    go_wp2_with (first
      | (go_at_call 9; refine hal.mono ?_; rintro e w1 ⟨rfl, ho1⟩; have hl1 := HLG.out w1 ho1; have HO1 := Lib.hid ho1; clear ho1 hal HLG)
      | (go_at_call 10; refine hl1.mono ?_; rintro e w2 ⟨rfl, ho2⟩; have HO2 := Lib.hid ho2; have hnewA := new_ok 4096 w2 (by omega); clear ho2 hl1)
      | (go_at_call 11; refine hnewA.mono ?_; rintro e w3 ⟨a, ρ3, L3, rfl, h3, ho3, hn3, hb3⟩; have H3 := Lib.hid h3; have HO3 := Lib.hid ho3; have HN3 := Lib.hid hn3; have hnewB := new_ok 4096 w3 (by omega); clear h3 ho3 hn3 hb3 hnewA)
      | (go_at_call 11; refine hnewB.mono ?_; rintro e w4 ⟨b, ρ4, L4, rfl, h4, ho4, hn4, hb4⟩; have H4 := Lib.hid h4; have HO4 := Lib.hid ho4; have HN4 := Lib.hid hn4; clear h4 ho4 hn4 hb4 hnewB))
    have HT0 : Hid (TwoInv ((w.alloc (.cells #[.int .i64 dirs, .slice ca cuts.length cc] 26)).alloc (.cells #[.int .i64 edirs, .slice ea ecuts.length ec] 26)) w4 a b 0) := by
      have z1 := HO1.out.size
      have z2 := HO2.out.size
      exact ⟨ρ3, ρ4, L3, L4, Dm.St.new 4096, Two.start H3.out ((HO1.out.trans HO2.out).trans HO3.out) (fun k hk => HN3.out k (by omega)) H4.out HO4.out HN4.out, Dm.St.WF.new (by omega), by simp [Dm.St.new], by simp [Dm.St.new]⟩
    clear H3 H4 HO1 HO2 HO3 HO4 HN3 HN4
    go_loopw [42] (fun iv wr => ∃ (k : Nat), k ≤ l.length ∧ iv = .int .i64 k ∧ TwoInv ((w.alloc (.cells #[.int .i64 dirs, .slice ca cuts.length cc] 26)).alloc (.cells #[.int .i64 edirs, .slice ea ecuts.length ec] 26)) wr a b k) (fun iv _ => l.length - (intOf iv).toNat)
    case atStart => exact ⟨0, Nat.zero_le _, rfl, HT0.out⟩
    case round =>
      obtain ⟨k, hk, rfl, ρ, σ, L, M, s, htw, hwf, hst, hch⟩ := hrel
      by_cases hlt : k < l.length
      · have how := HOW.out.trans htw.sa.only
        obtain ⟨g, o, ha, hSg, hcell, hop⟩ := (HS.out.kept (w' := wr) (S' := fun j => j < wr.heap.size ∧ ρ j = none ∧ σ j = none) (fun j hj => how.block j (HLT.out j hj) (fun x => x)) (fun j hj => ⟨Nat.lt_of_lt_of_le (HLT.out j hj) how.size, htw.sa.none j (Nat.lt_of_lt_of_le (HLT.out j hj) HOW.out.size), htw.sb.none j (Nat.lt_of_lt_of_le (HLT.out j hj) HOW.out.size)⟩)).at_ hlt
        subst ha
        generalize l[k].1 = od at *
        generalize l[k].2.1 = odv at *
        generalize l[k].2.2 = ocv at *
        obtain ⟨oda, odc, hods⟩ := hop.data.shape
        obtain ⟨oca, occ, hocs⟩ := hop.cuts.shape
        subst hods hocs
        obtain ⟨kind, name, dst, odata, n, m, odirs, ocuts⟩ := od
        simp only [opCells] at hcell
        have c0 := hcell 0 _ rfl
        have c1 := hcell 1 _ rfl
        have c2 := hcell 2 _ rfl
        have c3 := hcell 3 _ rfl
        have c4 := hcell 4 _ rfl
        have c5 := hcell 5 _ rfl
        have c6 := hcell 6 _ rfl
        have c7 := hcell 7 _ rfl
        rw [Nat.add_zero] at c0
        clear hcell
        have hoX : Only (fun _ => False) wr (wr.alloc (.cells #[.int .i64 kind, .string name, .string dst, .slice oda odata.length odc, .int .i64 n, .int .i64 m, .int .i64 odirs, .slice oca ocuts.length occ] 39)) := Only.alloc _
        have hbox := heap_alloc_new wr (.cells #[.int .i64 kind, .string name, .string dst, .slice oda odata.length odc, .int .i64 n, .int .i64 m, .int .i64 odirs, .slice oca ocuts.length occ] 39)
        have hnone : ρ wr.heap.size = none ∧ σ wr.heap.size = none := by
          refine ⟨?_, ?_⟩
          · cases hx : ρ wr.heap.size with
            | none => rfl
            | some r => have := htw.ra.low _ (by rw [hx]; simp); omega
          · cases hx : σ wr.heap.size with
            | none => rfl
            | some r => have := htw.rb.low _ (by rw [hx]; simp); omega
        have HPL : Hid (∀ wq, Only (fun _ => False) (wr.alloc (.cells #[.int .i64 kind, .string name, .string dst, .slice oda odata.length odc, .int .i64 n, .int .i64 m, .int .i64 odirs, .slice oca ocuts.length occ] 39)) wq → Calls Try.prog 14 #[.pointer (some ⟨a, 0, none⟩), .agg #[.int .i64 kind, .string name, .string dst, .slice oda odata.length odc, .int .i64 n, .int .i64 m, .int .i64 odirs, .slice oca ocuts.length occ]] wq fun e w1 => e = .returned (errV (playS s ⟨kind, name, dst, odata, n, m, odirs, ocuts⟩).1) ∧ w1.heap[wr.heap.size]? = some (.cells #[.int .i64 kind, .string name, .string dst, .slice oda odata.length odc, .int .i64 n, .int .i64 m, .int .i64 odirs, .slice oca ocuts.length occ] 39) ∧
            ∀ w2, Only (fun _ => False) w1 w2 → Calls Try.prog 14 #[.pointer (some ⟨b, 0, none⟩), .agg #[.int .i64 kind, .string name, .string dst, .slice oda odata.length odc, .int .i64 n, .int .i64 m, .int .i64 odirs, .slice oca ocuts.length occ]] w2 fun e w3 => e = .returned (errV (playS s ⟨kind, name, dst, odata, n, m, odirs, ocuts⟩).1) ∧ w3.heap[wr.heap.size]? = some (.cells #[.int .i64 kind, .string name, .string dst, .slice oda odata.length odc, .int .i64 n, .int .i64 m, .int .i64 odirs, .slice oca ocuts.length occ] 39) ∧ TwoInv ((w.alloc (.cells #[.int .i64 dirs, .slice ca cuts.length cc] 26)).alloc (.cells #[.int .i64 edirs, .slice ea ecuts.length ec] 26)) w3 a b (k + 1)) := by
          intro wq hoq
          have htX := htw.rest hoX
          have c := playS_counts s ⟨kind, name, dst, odata, n, m, odirs, ocuts⟩
          have hopX := hop.kept (w' := wr.alloc (.cells #[.int .i64 kind, .string name, .string dst, .slice oda odata.length odc, .int .i64 n, .int .i64 m, .int .i64 odirs, .slice oca ocuts.length occ] 39)) (S' := fun j => j < (wr.alloc (.cells #[.int .i64 kind, .string name, .string dst, .slice oda odata.length odc, .int .i64 n, .int .i64 m, .int .i64 odirs, .slice oca ocuts.length occ] 39)).heap.size ∧ ρ j = none ∧ σ j = none) (fun j hj => hoX.block j hj.1 (fun x => x)) (fun j hj => ⟨Nat.lt_of_lt_of_le hj.1 hoX.size, hj.2⟩)
          refine (TwoInv.play htX hoq hwf (by omega) (by omega) ⟨kind, name, dst, odata, n, m, odirs, ocuts⟩ _ _ hopX).mono ?_
          rintro e w1 ⟨rfl, kp, hnx⟩
          refine ⟨rfl, (kp _ (by simp) hnone.1).trans hbox, fun w2 ho2 => ?_⟩
          refine (hnx w2 ho2).mono ?_
          rintro e w3 ⟨rfl, kp3, ρ', σ', L', M', ht3⟩
          exact ⟨rfl, (kp3 _ (by simp) hnone.1 hnone.2).trans hbox, ρ', σ', L', M', _, ht3, playS_WF hwf _ hop.nlt, by omega, by omega⟩
        generalize (playS s ⟨kind, name, dst, odata, n, m, odirs, ocuts⟩).1 = en at *
        have HNUM := Lib.hid (num_any en)
        clear htw hwf hst hch hop how hSg hoX hnone HT0
        go_wp2
        have x0 : (wr.alloc (.cells #[.int .i64 kind, .string name, .string dst, .slice oda odata.length odc, .int .i64 n, .int .i64 m, .int .i64 odirs, .slice oca ocuts.length occ] 39)).cell? ⟨wr.heap.size, 0, none⟩ = some (Value.int .i64 kind) := cell_of hbox 0
        have x1 : (wr.alloc (.cells #[.int .i64 kind, .string name, .string dst, .slice oda odata.length odc, .int .i64 n, .int .i64 m, .int .i64 odirs, .slice oca ocuts.length occ] 39)).cell? ⟨wr.heap.size, 1, none⟩ = some (Value.string name) := cell_of hbox 1
        have x2 : (wr.alloc (.cells #[.int .i64 kind, .string name, .string dst, .slice oda odata.length odc, .int .i64 n, .int .i64 m, .int .i64 odirs, .slice oca ocuts.length occ] 39)).cell? ⟨wr.heap.size, 2, none⟩ = some (Value.string dst) := cell_of hbox 2
        have x3 : (wr.alloc (.cells #[.int .i64 kind, .string name, .string dst, .slice oda odata.length odc, .int .i64 n, .int .i64 m, .int .i64 odirs, .slice oca ocuts.length occ] 39)).cell? ⟨wr.heap.size, 3, none⟩ = some (Value.slice oda odata.length odc) := cell_of hbox 3
        have x4 : (wr.alloc (.cells #[.int .i64 kind, .string name, .string dst, .slice oda odata.length odc, .int .i64 n, .int .i64 m, .int .i64 odirs, .slice oca ocuts.length occ] 39)).cell? ⟨wr.heap.size, 4, none⟩ = some (Value.int .i64 n) := cell_of hbox 4
        have x5 : (wr.alloc (.cells #[.int .i64 kind, .string name, .string dst, .slice oda odata.length odc, .int .i64 n, .int .i64 m, .int .i64 odirs, .slice oca ocuts.length occ] 39)).cell? ⟨wr.heap.size, 5, none⟩ = some (Value.int .i64 m) := cell_of hbox 5
        have x6 : (wr.alloc (.cells #[.int .i64 kind, .string name, .string dst, .slice oda odata.length odc, .int .i64 n, .int .i64 m, .int .i64 odirs, .slice oca ocuts.length occ] 39)).cell? ⟨wr.heap.size, 6, none⟩ = some (Value.int .i64 odirs) := cell_of hbox 6
        have x7 : (wr.alloc (.cells #[.int .i64 kind, .string name, .string dst, .slice oda odata.length odc, .int .i64 n, .int .i64 m, .int .i64 odirs, .slice oca ocuts.length occ] 39)).cell? ⟨wr.heap.size, 7, none⟩ = some (Value.slice oca ocuts.length occ) := cell_of hbox 7
        have HPA := Lib.hid (HPL.out _ Only.drew)
        clear hbox HPL c0 c1 c2 c3 c4 c5 c6 c7
        generalize wr.alloc (.cells #[.int .i64 kind, .string name, .string dst, .slice oda odata.length odc, .int .i64 n, .int .i64 m, .int .i64 odirs, .slice oca ocuts.length occ] 39) = wX at *
        go_region_held3 (fun w' => w'.cell? ⟨wr.heap.size, 0, none⟩ = some (Value.int .i64 kind) ∧ w'.cell? ⟨wr.heap.size, 1, none⟩ = some (Value.string name) ∧ w'.cell? ⟨wr.heap.size, 2, none⟩ = some (Value.string dst) ∧ w'.cell? ⟨wr.heap.size, 3, none⟩ = some (Value.slice oda odata.length odc) ∧ w'.cell? ⟨wr.heap.size, 4, none⟩ = some (Value.int .i64 n) ∧ w'.cell? ⟨wr.heap.size, 5, none⟩ = some (Value.int .i64 m) ∧ w'.cell? ⟨wr.heap.size, 6, none⟩ = some (Value.int .i64 odirs) ∧ w'.cell? ⟨wr.heap.size, 7, none⟩ = some (Value.slice oca ocuts.length occ))
          (first | exact ⟨x0, x1, x2, x3, x4, x5, x6, x7⟩ | exact ⟨y0, y1, y2, y3, y4, y5, y6, y7⟩ | exact ⟨z0, z1, z2, z3, z4, z5, z6, z7⟩)
          (first
            | (go_at_call_of 14 (Value.pointer (some ⟨a, 0, none⟩)); refine HPA.out.mono ?_; rintro e w5 ⟨rfl, hB5, hpb⟩; have y0 : w5.cell? ⟨wr.heap.size, 0, none⟩ = some (Value.int .i64 kind) := cell_of hB5 0; have y1 : w5.cell? ⟨wr.heap.size, 1, none⟩ = some (Value.string name) := cell_of hB5 1; have y2 : w5.cell? ⟨wr.heap.size, 2, none⟩ = some (Value.string dst) := cell_of hB5 2; have y3 : w5.cell? ⟨wr.heap.size, 3, none⟩ = some (Value.slice oda odata.length odc) := cell_of hB5 3; have y4 : w5.cell? ⟨wr.heap.size, 4, none⟩ = some (Value.int .i64 n) := cell_of hB5 4; have y5 : w5.cell? ⟨wr.heap.size, 5, none⟩ = some (Value.int .i64 m) := cell_of hB5 5; have y6 : w5.cell? ⟨wr.heap.size, 6, none⟩ = some (Value.int .i64 odirs) := cell_of hB5 6; have y7 : w5.cell? ⟨wr.heap.size, 7, none⟩ = some (Value.slice oca ocuts.length occ) := cell_of hB5 7; have HPB := Lib.hid (hpb _ (Only.refl _ _)); clear hpb hB5)
            | (go_at_call 17; refine (HNUM.out _).mono ?_; rintro e w' ⟨rfl, rfl⟩)
            | (go_at_call_of 14 (Value.pointer (some ⟨b, 0, none⟩)); refine HPB.out.mono ?_; rintro e w6 ⟨rfl, hB6, hinv⟩; have z0 : w6.cell? ⟨wr.heap.size, 0, none⟩ = some (Value.int .i64 kind) := cell_of hB6 0; have z1 : w6.cell? ⟨wr.heap.size, 1, none⟩ = some (Value.string name) := cell_of hB6 1; have z2 : w6.cell? ⟨wr.heap.size, 2, none⟩ = some (Value.string dst) := cell_of hB6 2; have z3 : w6.cell? ⟨wr.heap.size, 3, none⟩ = some (Value.slice oda odata.length odc) := cell_of hB6 3; have z4 : w6.cell? ⟨wr.heap.size, 4, none⟩ = some (Value.int .i64 n) := cell_of hB6 4; have z5 : w6.cell? ⟨wr.heap.size, 5, none⟩ = some (Value.int .i64 m) := cell_of hB6 5; have z6 : w6.cell? ⟨wr.heap.size, 6, none⟩ = some (Value.int .i64 odirs) := cell_of hB6 6; have z7 : w6.cell? ⟨wr.heap.size, 7, none⟩ = some (Value.slice oca ocuts.length occ) := cell_of hB6 7; have HINV := Lib.hid hinv; clear hinv hB6))
        clear x0 x1 x2 x3 x4 x5 x6 x7 y0 y1 y2 y3 y4 y5 y6 y7 z0 z1 z2 z3 z4 z5 z6 z7
        go_wp2
        go_roundw
        case rel => exact ⟨k + 1, by omega, by go_num, HINV.out⟩
        case measure => simp [intOf]; omega
      · have hkl : k = l.length := by omega
        subst hkl
        have HBOX : Hid (∀ (wq : World) (τ : Roles), Beside ((w.alloc (.cells #[.int .i64 dirs, .slice ca cuts.length cc] 26)).alloc (.cells #[.int .i64 edirs, .slice ea ecuts.length ec] 26)) wq τ → wq.cell? ⟨w.heap.size, 0, none⟩ = some (Value.int .i64 dirs) ∧ wq.cell? ⟨w.heap.size, 1, none⟩ = some (Value.slice ca cuts.length cc) ∧ wq.cell? ⟨w.heap.size + 1, 0, none⟩ = some (Value.int .i64 edirs) ∧ wq.cell? ⟨w.heap.size + 1, 1, none⟩ = some (Value.slice ea ecuts.length ec) ∧
            IntsAt wq (fun j => j < wq.heap.size ∧ τ j = none) (.slice ca cuts.length cc) cuts ∧ IntsAt wq (fun j => j < wq.heap.size ∧ τ j = none) (.slice ea ecuts.length ec) ecuts) := by
          intro wq τ hb
          have b1 := (hb.only.block w.heap.size (by simp; omega) (fun x => x)).trans HBX.out
          have b2 := (hb.only.block (w.heap.size + 1) (by simp) (fun x => x)).trans HBY.out
          have ho := HOW.out.trans hb.only
          have kp : ∀ j, S j → wq.heap[j]? = w.heap[j]? := fun j hj => ho.block j (HLT.out j hj) (fun x => x)
          have sp : ∀ j, S j → j < wq.heap.size ∧ τ j = none := fun j hj => ⟨Nat.lt_of_lt_of_le (HLT.out j hj) ho.size, hb.none j (Nat.lt_of_lt_of_le (HLT.out j hj) HOW.out.size)⟩
          exact ⟨cell_of b1 0, cell_of b1 1, cell_of b2 0, cell_of b2 1, HC.out.kept kp sp, HE.out.kept kp sp⟩
        have HFIN : Hid (∀ wq (τ : Roles), Beside ((w.alloc (.cells #[.int .i64 dirs, .slice ca cuts.length cc] 26)).alloc (.cells #[.int .i64 edirs, .slice ea ecuts.length ec] 26)) wq τ → Only (fun _ => False) w wq) := fun wq τ hb => HOW.out.trans hb.only
        obtain ⟨k1, k2, k3, k4, k5, k6⟩ := HBOX.out _ _ htw.sa
        have hcA := crash_rep htw.ra hwf dirs _ cuts k5 (by omega)
        have HCH : Hid (s.chg.length < 2 ^ 32) := by unfold Hid; omega
        have HTW := Lib.hid htw; have HWF := Lib.hid hwf
        have HST2 := Lib.hid (Dm.crash_still s dirs cuts)
        have HALL := Lib.hid (HST2.out.crash edirs ecuts)
        have HW1 := Lib.hid (hwf.crash dirs cuts)
        have HW2 := Lib.hid ((hwf.crash dirs cuts).crash edirs ecuts)
        have HZC : Hid ((s.crash dirs cuts).chg.length < 2 ^ 32) := by unfold Hid; rw [HST2.out.chg]; simp
        clear htw hwf hst hch HT0 HS HC HE HLT HBX HBY HOW k3 k4 k5 k6
        go_wp2_with (first
          | (go_at_call_of 15 (Value.pointer (some ⟨a, 0, none⟩)); refine hcA.mono ?_; rintro e w9 ⟨rfl, ρ9, L9, h9, m9⟩; have TW9 := Lib.hid (HTW.out.left h9 m9); obtain ⟨j1, j2, -, -, -, -⟩ := HBOX.out _ _ TW9.out.sa; obtain ⟨-, -, -, -, j5, -⟩ := HBOX.out _ _ TW9.out.sb; have hcB := crash_rep TW9.out.rb HWF.out dirs _ cuts j5 HCH.out; clear h9 m9 hcA k1 k2 j5 HTW)
          | (go_at_call_of 15 (Value.pointer (some ⟨b, 0, none⟩)); refine hcB.mono ?_; rintro e w10 ⟨rfl, σ10, M10, h10, m10⟩; have TW10 := Lib.hid (TW9.out.right h10 m10); have hfA := files_rep TW10.out.ra HW1.out; clear h10 m10 hcB j1 j2 TW9)
          | (go_at_call_of 12 (Value.pointer (some ⟨a, 0, none⟩)); refine hfA.mono ?_; rintro e w11 ⟨v11, rfl, hf11, ho11⟩; have F11 := Lib.hid hf11; have TW11 := Lib.hid (TW10.out.rest ho11); obtain ⟨-, -, i3, i4, -, i6⟩ := HBOX.out _ _ TW11.out.sa; have hcA2 := crash_rep TW11.out.ra HW1.out edirs _ ecuts i6 HZC.out; have HNO : Hid (∀ k, w10.heap.size ≤ k → ρ9 k = none) := (fun k hk => TW10.out.ra.high hk); clear hf11 ho11 hfA i6 TW10)
          | (go_at_call_of 15 (Value.pointer (some ⟨a, 0, none⟩)); refine hcA2.mono ?_; rintro e w12 ⟨rfl, ρ12, L12, h12, m12⟩; have F12 := Lib.hid (F11.out.kept (w' := w12) (S' := fun k => k < w12.heap.size) (fun k hk => m12.only.block k hk.2 (fun e => e (HNO.out k hk.1))) (fun k hk => Nat.lt_of_lt_of_le hk.2 m12.only.size)); have TW12 := Lib.hid (TW11.out.left h12 m12); have hfB := files_rep TW12.out.rb HW1.out; clear h12 m12 hcA2 i3 i4 TW11 F11 HNO)
          | (go_at_call_of 12 (Value.pointer (some ⟨b, 0, none⟩)); refine hfB.mono ?_; rintro e w13 ⟨v13, rfl, hf13, ho13⟩; have TW13 := Lib.hid (TW12.out.rest ho13); have hn1 := numFiles_same (F12.out.kept (w' := w13) (S' := fun k => k < w13.heap.size) (fun k hk => ho13.block k hk (fun x => x)) (fun k hk => Nat.lt_of_lt_of_le hk ho13.size)) hf13 (HW1.out.all_len); have F13 := Lib.hid (F12.out.kept (w' := w13) (S' := fun k => k < w13.heap.size) (fun k hk => ho13.block k hk (fun x => x)) (fun k hk => Nat.lt_of_lt_of_le hk ho13.size)); clear hf13 ho13 hfB TW12 F12)
          | (go_at_call_of 16 v13; refine hn1.mono ?_; rintro e w14 ⟨rfl, ho14⟩; have TW14 := Lib.hid (TW13.out.rest ho14); have F14 := Lib.hid (F13.out.kept (w' := w14) (S' := fun k => k < w14.heap.size) (fun k hk => ho14.block k hk (fun x => x)) (fun k hk => Nat.lt_of_lt_of_le hk ho14.size)); have hfC := files_rep TW14.out.ra HW2.out; rw [HALL.out.1] at hfC; clear ho14 hn1 TW13 F13)
          | (go_at_call_of 12 (Value.pointer (some ⟨a, 0, none⟩)); refine hfC.mono ?_; rintro e w15 ⟨v15, rfl, hf15, ho15⟩; have TW15 := Lib.hid (TW14.out.rest ho15); have hn2 := numFiles_same (F14.out.kept (w' := w15) (S' := fun k => k < w15.heap.size) (fun k hk => ho15.block k hk (fun x => x)) (fun k hk => Nat.lt_of_lt_of_le hk ho15.size)) hf15 (HW1.out.all_len); clear hf15 ho15 hfC TW14 F14)
          | (go_at_call_of 16 v15; refine hn2.mono ?_; rintro e w16 ⟨rfl, ho16⟩; have TW16 := Lib.hid (TW15.out.rest ho16); have hsA := steps_rep TW16.out.ra; have hsB := steps_rep TW16.out.rb; rw [HALL.out.2] at hsA; clear ho16 hn2 TW15)
          | (go_at_call_of 13 (Value.pointer (some ⟨a, 0, none⟩)); refine hsA.mono ?_; rintro e w' ⟨rfl, rfl⟩)
          | (go_at_call_of 13 (Value.pointer (some ⟨b, 0, none⟩)); refine hsB.mono ?_; rintro e w' ⟨rfl, rfl⟩))
        go_ret
        exact ⟨by simp, HFIN.out _ _ TW16.out.sa⟩

end Go.Proofs.Ythjabfhfkikalaa
