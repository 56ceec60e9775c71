/- keeps where the input is small enough. Conditions: rows within reach. -/
import Derived.Test.YthjabfhfkikalaaKeeps
import Derived.Deep.QuietTactic
namespace Go.Proofs.Ythjabfhfkikalaa
open Go.RowKit Go.Maps Go.WideMaps

def keptB : ByteArray := ⟨#[107, 101, 112, 116]⟩

theorem bytes_eq {x : ByteArray} (e : x.data.toList = keptN) : x = keptB := by
  obtain ⟨⟨y⟩⟩ := x
  have e : y = keptN := e
  subst e; rfl

theorem ne_kept {x : ByteArray} (h : x ≠ keptB) : (x.toList == [107, 101, 112, 116]) = false := by
  rw [beq_eq_false_iff_ne]
  intro e
  rw [ByteArray.toList_eq] at e
  exact h (bytes_eq e)

/-- What holds at the head of the loop. -/
structure KInv (data more : List UInt8) (k : Nat) (s : Dm.St) : Prop where
  zero : k = 0 → s = kp4 data
  kp : Dm.Kp keptN 0 data (data.length + more.length) s
  wf : s.WF
  steps : s.steps ≤ 5 + k
  chg : s.chg.length ≤ k

theorem KInv.start (data more : List UInt8) (h : data.length ≤ 65536) : KInv data more 0 (kp4 data) where
  zero := fun _ => rfl
  kp := by
    have h1 := kp4_Kp data
    exact ⟨h1.dir, h1.syn, h1.chg, h1.one, by
      obtain ⟨f, h2, h3⟩ := h1.fil
      exact ⟨f, h2, h3.pre, h3.syn, by have := h3.len; omega⟩⟩
  wf := kp4_wf data h
  steps := by simp [kp4]
  chg := by simp [kp4]

theorem KInv.skip {data more : List UInt8} {k : Nat} {s : Dm.St} (h : KInv data more k s) (hk : k + 1 ≠ 0 → s = s) (h0 : k = 0 → True) : KInv data more (k + 1) s where
  zero := by omega
  kp := h.kp
  wf := h.wf
  steps := by have := h.steps; omega
  chg := by have := h.chg; omega

theorem KInv.play {data more : List UInt8} {k : Nat} {s : Dm.St} (h : KInv data more k s) (o : OpD) (hn : o.name ≠ keptB) (hd : o.dst ≠ keptB) (hlt : o.n < 2 ^ 63) : KInv data more (k + 1) (playS s o).2 where
  zero := by omega
  kp := playS_Kp h.kp (by decide) o (fun e => hn (bytes_eq e)) (fun e => hd (bytes_eq e))
  wf := playS_WF h.wf o hlt
  steps := by have := h.steps; have := (playS_counts s o).1; omega
  chg := by have := h.chg; have := (playS_counts s o).2; omega

/-- The first round's own append. -/
theorem kp4_more (data more : List UInt8) (h : data.length ≤ 65536) : Dm.Kp keptN 0 data (data.length + more.length) ((kp4 data).append keptN more).2 ∧ ((kp4 data).append keptN more).2.WF ∧ ((kp4 data).append keptN more).2.steps ≤ 5 ∧ ((kp4 data).append keptN more).2.chg.length = 0 := by
  refine ⟨(kp4_Kp data).grow more (Nat.le_refl _), (kp4_wf data h).append _ _, ?_⟩
  have e1 : (kp4 data).find keptN = (0, some 0) := by rfl
  unfold Dm.St.append
  rw [e1]
  show (if _ then _ else _ : Nat × Dm.St).2.steps ≤ 5 ∧ (if _ then _ else _ : Nat × Dm.St).2.chg.length = 0
  split
  · simp [kp4]
  · simp [kp4, Dm.St.step, Dm.St.atFile]

theorem KInv.play0 {data more : List UInt8} (hdl : data.length ≤ 65536) (o : OpD) (hn : o.name ≠ keptB) (hd : o.dst ≠ keptB) (hlt : o.n < 2 ^ 63) : KInv data more 1 (playS ((kp4 data).append keptN more).2 o).2 := by
  obtain ⟨h1, h2, h3, h4⟩ := kp4_more data more hdl
  exact {
    zero := by omega
    kp := playS_Kp h1 (by decide) o (fun e => hn (bytes_eq e)) (fun e => hd (bytes_eq e))
    wf := playS_WF h2 o hlt
    steps := by have := (playS_counts ((kp4 data).append keptN more).2 o).1; omega
    chg := by have := (playS_counts ((kp4 data).append keptN more).2 o).2; omega }

/-- What lies beside the disk. -/
structure Side (w0 wr : World) (ρ : Roles) : Prop where
  only : Only (fun _ => False) w0 wr
  none : ∀ k, k < w0.heap.size → ρ k = none
theorem Side.move {w0 wr w' : World} {ρ ρ' : Roles} (h : Side w0 wr ρ) (m : Moves ρ ρ' wr w') : Side w0 w' ρ' :=
  ⟨h.only.andThen m.only fun k hk hs => hs (h.none k hk), fun k hk => (m.old k (Nat.lt_of_lt_of_le hk h.only.size)).trans (h.none k hk)⟩

set_option maxRecDepth 100000 in
set_option maxHeartbeats 4000000 in
theorem keeps_in {w : World} {S : Nat → Prop} (hlt : ∀ k, S k → k < w.heap.size) {dv mv sv cv : Value} {data more : List UInt8} {l : List (OpD × Value × Value)} {cuts : List Int} (dirs : Int)
    (hd : BytesAt w S dv data) (hm : BytesAt w S mv more) (hs : ScriptAt w S sv l) (hc : IntsAt w S cv cuts) (hdl : data.length ≤ 65536) (hml : more.length ≤ 65536) (hll : l.length < 2 ^ 47)
    (hbig : longS 0 (l.map (·.1)) = false) :
    Calls Try.prog 8 #[dv, sv, .agg #[.int .i64 dirs, cv], mv] w fun e w' => e = .returned (.bool true) ∧ Only (fun _ => False) w w' := by
  obtain ⟨da, dc, hds⟩ := hd.shape
  obtain ⟨ma, mc, hms⟩ := hm.shape
  obtain ⟨ca, cc, hcs⟩ := hc.shape
  obtain ⟨sa, sc, hss⟩ := hs.shape
  subst hds hms hcs hss
  have hlen : l.length ≤ 327 := by
    have := (longS_false hbig).1
    by_cases h : l = []
    · subst h; simp
    · have h2 := this (by simpa using h)
      simp at h2; omega
  have HS := Lib.hid hs; have HLT := Lib.hid hlt; have HD := Lib.hid hd; have HM := Lib.hid hm; have HC := Lib.hid hc
  have HDL := Lib.hid hdl; have HML := Lib.hid hml
  have hal := alive_any (w.alloc (.cells #[.int .i64 dirs, .slice ca cuts.length cc] 26))
  have hlg : ∀ w1, Only (fun _ => False) (w.alloc (.cells #[.int .i64 dirs, .slice ca cuts.length cc] 26)) w1 → Calls Try.prog 10 #[.slice sa l.length sc] w1 fun e w' => e = .returned (.bool false) ∧ Only (fun _ => False) w1 w' := by
    intro w1 ho
    have ho' := (Only.alloc (w := w) (.cells #[.int .i64 dirs, .slice ca cuts.length cc] 26)).trans ho
    have := long_any (HS.out.kept (fun k hk => ho'.block k (HLT.out k hk) (fun x => x)) (fun _ h => h)) (fun k hk => Nat.lt_of_lt_of_le (HLT.out k hk) ho'.size) hll
    rw [hbig] at this
    exact this
  have hi : ¬ (65536 : Int) < (data.length : Int) := by omega
  have hj : ¬ (65536 : Int) < (more.length : Int) := by omega
  have HOW : Hid (Only (fun _ => False) w (w.alloc (.cells #[.int .i64 dirs, .slice ca cuts.length cc] 26))) := Only.alloc _
  have HSD : Hid (∀ (w1 w2 w3 : World) (ρ3 : Roles), Only (fun _ => False) (w.alloc (.cells #[.int .i64 dirs, .slice ca cuts.length cc] 26)) w1 → Only (fun _ => False) w1 w2 → Only (fun _ => False) w2 w3 → (∀ k, k < w2.heap.size → ρ3 k = none) → Side (w.alloc (.cells #[.int .i64 dirs, .slice ca cuts.length cc] 26)) w3 ρ3) :=
    fun w1 w2 w3 ρ3 h1 h2 h3 h4 => ⟨(h1.trans h2).trans h3, fun k hk => h4 k (Nat.lt_of_lt_of_le hk (Nat.le_trans h1.size h2.size))⟩
  clear hs hd hm hc hlt hll hbig hdl hml
  go_enter Try.func8, Try.ntmps8
  go_wp2_with (first
    | (go_at_call 9; refine hal.mono ?_; rintro e w1 ⟨rfl, ho1⟩; have hl1 := hlg w1 ho1; have HO1 := Lib.hid ho1; clear ho1 hal hlg)
    | (go_at_call 10; refine hl1.mono ?_; rintro e w2 ⟨rfl, ho2⟩; have HO2 := Lib.hid ho2; have hnew := new_ok 1048576 w2 (by omega); clear ho2 hl1)
    | (go_at_call 11; refine hnew.mono ?_; rintro e w3 ⟨b, ρ3, L3, rfl, h3, ho3, hn3, hb3⟩; have HO3 := Lib.hid ho3; have HN3 := Lib.hid hn3; have hcr := (create_rep h3 (Dm.St.WF.new (by omega)) (by decide) (by decide) keptB (by decide)).mono fun e w' hp => OpPost.well hp kp1_ok; unfold keptB at hcr; clear h3 ho3 hn3 hb3 hnew)
    | (go_at_call 20; refine hcr.mono ?_; rintro e w4 ⟨rfl, ρ4, L4, h4, m4⟩; have H4 := Lib.hid h4; have M4 := Lib.hid m4; have SD4 := Lib.hid ((HSD.out w1 w2 w3 ρ3 HO1.out HO2.out HO3.out HN3.out).move m4); clear h4 m4 hcr)
    | (at_builtin; refine wpList_append_bytes_want _ (by rfl) _ _ rfl (.slice (some ⟨w4.heap.size, 0, none⟩) 0 0) (.slice da data.length dc) 0 [] rfl rfl (copy_new w4) (copy_src HD.out HLT.out (HOW.out.trans SD4.out.only)) (by rw [Nat.zero_add]; exact Nat.le_trans HDL.out (by decide)) ?_; intro a' c' w5 hown hgr hat;
        have hap := (append_copied H4.out kp1_wf (by decide) keptB (by decide) (Nat.le_trans HDL.out (by decide)) (Nat.le_refl _) (Only.alloc _) hown hgr hat).mono fun e w' hp => OpPost.well hp (kp2_ok data HDL.out); unfold keptB at hap; clear hown hgr hat)
    | (go_at_call 21; refine hap.mono ?_; rintro e w6 ⟨rfl, ρ6, L6, h6, m6⟩; have SD6 := Lib.hid (SD4.out.move m6); have hsy := (sync_rep h6 (kp2_wf data HDL.out) (by simp [kp2]) keptB (by decide)).mono fun e w' hp => OpPost.well hp (kp3_ok data); unfold keptB at hsy; clear h6 m6 hap)
    | (go_at_call 22; refine hsy.mono ?_; rintro e w7 ⟨rfl, ρ7, L7, h7, m7⟩; have SD7 := Lib.hid (SD6.out.move m7); have hsd := (syncDir_rep h7 (kp3_wf data HDL.out) (by simp [kp3])).mono fun e w' hp => OpPost.well hp (kp4_ok data); clear h7 m7 hsy)
    | (go_at_call 23; refine hsd.mono ?_; rintro e w8 ⟨rfl, ρ8, L8, h8, m8⟩; have H8 := Lib.hid h8; have SD8 := Lib.hid (SD7.out.move m8); clear h8 m8 hsd SD4 SD6 SD7 HO1 HO2 HO3 HN3 H4 M4))
  go_loopw [64] (fun iv wr => ∃ (k : Nat) (ρ : Roles) (L : Lay) (s : Dm.St), k ≤ l.length ∧ iv = .int .i64 k ∧ Rep wr b ρ L s ∧ KInv data more k s ∧ Side (w.alloc (.cells #[.int .i64 dirs, .slice ca cuts.length cc] 26)) wr ρ) (fun iv _ => l.length - (intOf iv).toNat)
  case atStart => exact ⟨0, ρ8, L8, kp4 data, Nat.zero_le _, rfl, H8.out, KInv.start data more HDL.out, SD8.out⟩
  case round =>
    obtain ⟨k, ρ, L, s, hk, rfl, hrp, hki, hsd⟩ := hrel
    by_cases hlt : k < l.length
    · have how := HOW.out.trans hsd.only
      obtain ⟨g, o, ha, hSg, hcell, hop⟩ := (HS.out.kept (w' := wr) (S' := fun j => j < wr.heap.size ∧ ρ j = none) (fun j hj => how.block j (HLT.out j hj) (fun x => x)) (fun j hj => ⟨Nat.lt_of_lt_of_le (HLT.out j hj) how.size, hsd.none j (Nat.lt_of_lt_of_le (HLT.out j hj) HOW.out.size)⟩)).at_ hlt
      subst ha
      generalize l[k].1 = od at *
      generalize l[k].2.1 = odv at *
      generalize l[k].2.2 = ocv at *
      obtain ⟨oda, odc, hods⟩ := hop.data.shape
      obtain ⟨oca, occ, hocs⟩ := hop.cuts.shape
      subst hods hocs
      obtain ⟨kind, name, dst, odata, n, m, odirs, ocuts⟩ := od
      simp only [opCells] at hcell
      have c0 := hcell 0 _ rfl
      have c1 := hcell 1 _ rfl
      have c2 := hcell 2 _ rfl
      have c3 := hcell 3 _ rfl
      have c4 := hcell 4 _ rfl
      have c5 := hcell 5 _ rfl
      have c6 := hcell 6 _ rfl
      have c7 := hcell 7 _ rfl
      rw [Nat.add_zero] at c0
      clear hcell
      have hoX : Only (fun _ => False) wr (wr.alloc (.cells #[.int .i64 kind, .string name, .string dst, .slice oda odata.length odc, .int .i64 n, .int .i64 m, .int .i64 odirs, .slice oca ocuts.length occ] 39)) := Only.alloc _
      have HRP := Lib.hid (hrp.only_none hoX)
      have HSDX := Lib.hid (hsd.move (Moves.none hoX))
      have HOPX := Lib.hid (hop.kept (w' := wr.alloc (.cells #[.int .i64 kind, .string name, .string dst, .slice oda odata.length odc, .int .i64 n, .int .i64 m, .int .i64 odirs, .slice oca ocuts.length occ] 39)) (S' := fun j => j < (wr.alloc (.cells #[.int .i64 kind, .string name, .string dst, .slice oda odata.length odc, .int .i64 n, .int .i64 m, .int .i64 odirs, .slice oca ocuts.length occ] 39)).heap.size ∧ ρ j = none) (fun j hj => hoX.block j hj.1 (fun x => x)) (fun j hj => ⟨Nat.lt_of_lt_of_le hj.1 hoX.size, hj.2⟩))
      have HKI := Lib.hid hki
      have hbox := heap_alloc_new wr (.cells #[.int .i64 kind, .string name, .string dst, .slice oda odata.length odc, .int .i64 n, .int .i64 m, .int .i64 odirs, .slice oca ocuts.length occ] 39)
      by_cases hskip : name = keptB ∨ dst = keptB ∨ 9 < kind
      · have fin : Hid (∃ (k' : Nat) (ρ : Roles) (L : Lay) (s : Dm.St), k' ≤ l.length ∧ Value.int .i64 ((k : Int) + 1) = .int .i64 k' ∧ Rep (wr.alloc (.cells #[.int .i64 kind, .string name, .string dst, .slice oda odata.length odc, .int .i64 n, .int .i64 m, .int .i64 odirs, .slice oca ocuts.length occ] 39)) b ρ L s ∧ KInv data more k' s ∧ Side (w.alloc (.cells #[.int .i64 dirs, .slice ca cuts.length cc] 26)) (wr.alloc (.cells #[.int .i64 kind, .string name, .string dst, .slice oda odata.length odc, .int .i64 n, .int .i64 m, .int .i64 odirs, .slice oca ocuts.length occ] 39)) ρ) :=
          ⟨k + 1, ρ, L, s, by omega, rfl, HRP.out, HKI.out.skip (fun _ => rfl) (fun _ => trivial), HSDX.out⟩
        clear hrp hki hsd hop how hSg hoX HRP HSDX HOPX HKI hbox
        by_cases hn1 : name = keptB
        · subst hn1
          clear hskip
          unfold keptB at *
          go_wp2
          go_roundw
          case rel => exact fin.out
          case measure => simp [intOf]; omega
        · have e1 : (name.toList == [107, 101, 112, 116]) = false := ne_kept hn1
          by_cases hd1 : dst = keptB
          · subst hd1
            clear hskip hn1
            unfold keptB at *
            go_wp2
            go_roundw
            case rel => exact fin.out
            case measure => simp [intOf]; omega
          · have e2 : (dst.toList == [107, 101, 112, 116]) = false := ne_kept hd1
            have hk9 : 9 < kind := by simpa [hn1, hd1] using hskip
            clear hskip hn1 hd1
            go_wp2
            go_roundw
            case rel => exact fin.out
            case measure => simp [intOf]; omega
      · have hn1 : name ≠ keptB := fun e => hskip (.inl e)
        have hd1 : dst ≠ keptB := fun e => hskip (.inr (.inl e))
        have hk9 : ¬ 9 < kind := fun e => hskip (.inr (.inr e))
        have e1 := ne_kept hn1
        have e2 := ne_kept hd1
        have hnlt := hop.nlt
        by_cases hk0 : k = 0
        · subst hk0
          have hs4 := hki.zero rfl
          subst hs4
          have hBn : ρ wr.heap.size = none := by
            cases hx : ρ wr.heap.size with
            | none => rfl
            | some r => have := hrp.low _ (by rw [hx]; simp); omega
          have HAP : Hid (∀ (a2 : Option Addr) (c2 : Nat) (w5 : World), w5.ownsRow 0 5 1 (.slice a2 (0 + more.length) c2) (0 + more.length) ([] ++ more.map byteV) → ((wr.alloc (.cells #[.int .i64 kind, .string name, .string dst, .slice oda odata.length odc, .int .i64 n, .int .i64 m, .int .i64 odirs, .slice oca ocuts.length occ] 39)).alloc (.cells #[] 5)).grownBy w5 (some (wr.heap.size + 1)) →
              ((Value.slice a2 (0 + more.length) c2).ownBlock = some (wr.heap.size + 1) ∨ (Value.slice a2 (0 + more.length) c2).ownBlock = some ((wr.alloc (.cells #[.int .i64 kind, .string name, .string dst, .slice oda odata.length odc, .int .i64 n, .int .i64 m, .int .i64 odirs, .slice oca ocuts.length occ] 39)).alloc (.cells #[] 5)).heap.size) →
              Calls Try.prog 21 #[.pointer (some ⟨b, 0, none⟩), .string ⟨#[107, 101, 112, 116]⟩, .slice (some ⟨w5.heap.size, 0, none⟩) 1 1] (w5.alloc (.cells #[.slice a2 more.length c2] 22)) (fun e w6 => e = .returned (errV ((kp4 data).append keptN more).1) ∧ w6.heap[wr.heap.size]? = some (.cells #[.int .i64 kind, .string name, .string dst, .slice oda odata.length odc, .int .i64 n, .int .i64 m, .int .i64 odirs, .slice oca ocuts.length occ] 39) ∧
                Calls Try.prog 14 #[.pointer (some ⟨b, 0, none⟩), .agg #[.int .i64 kind, .string name, .string dst, .slice oda odata.length odc, .int .i64 n, .int .i64 m, .int .i64 odirs, .slice oca ocuts.length occ]] w6 fun e w' => (∃ v, e = .returned (errV v)) ∧
                  ∃ (k' : Nat) (ρ : Roles) (L : Lay) (s : Dm.St), k' ≤ l.length ∧ Value.int .i64 1 = .int .i64 k' ∧ Rep w' b ρ L s ∧ KInv data more k' s ∧ Side (w.alloc (.cells #[.int .i64 dirs, .slice ca cuts.length cc] 26)) w' ρ)) := by
            intro a2 c2 w5 hown hgr hat
            refine (append_copied HRP.out (kp4_wf data HDL.out) (by simp [kp4]) keptB (by decide) (Nat.le_trans HML.out (by decide)) (by simp) (Only.alloc _) hown hgr hat).mono ?_
            rintro e w6 ⟨rfl, ρ6, L6, h6, m6⟩
            have hB6 : w6.heap[wr.heap.size]? = some (.cells #[.int .i64 kind, .string name, .string dst, .slice oda odata.length odc, .int .i64 n, .int .i64 m, .int .i64 odirs, .slice oca ocuts.length occ] 39) := (m6.only.block _ (by simp) (by rw [hBn]; simp)).trans hbox
            refine ⟨rfl, hB6, ?_⟩
            obtain ⟨q1, q2, q3, q4⟩ := kp4_more data more HDL.out
            refine (play_rep h6 q2 (Nat.lt_of_le_of_lt q3 (by decide)) (Nat.lt_of_le_of_lt (Nat.le_of_eq q4) (by decide)) ⟨kind, name, dst, odata, n, m, odirs, ocuts⟩ (.slice oda odata.length odc) (.slice oca ocuts.length occ) (HOPX.out.kept (fun j hj => m6.only.block j hj.1 (by rw [hj.2]; simp)) (fun j hj => ⟨Nat.lt_of_lt_of_le hj.1 m6.only.size, (m6.old j hj.1).trans hj.2⟩))).mono ?_
            rintro e w7 ⟨rfl, ρ7, L7, h7, m7⟩
            exact ⟨⟨_, rfl⟩, 1, ρ7, L7, _, by omega, rfl, h7, KInv.play0 HDL.out _ hn1 hd1 hnlt, (HSDX.out.move m6).move m7⟩
          have HSRC : Hid (BytesAt ((wr.alloc (.cells #[.int .i64 kind, .string name, .string dst, .slice oda odata.length odc, .int .i64 n, .int .i64 m, .int .i64 odirs, .slice oca ocuts.length occ] 39)).alloc (.cells #[] 5)) S (.slice ma more.length mc) more) := copy_src HM.out HLT.out (HOW.out.trans HSDX.out.only)
          have HNEW : Hid (((wr.alloc (.cells #[.int .i64 kind, .string name, .string dst, .slice oda odata.length odc, .int .i64 n, .int .i64 m, .int .i64 odirs, .slice oca ocuts.length occ] 39)).alloc (.cells #[] 5)).ownsRow 0 5 1 (.slice (some ⟨wr.heap.size + 1, 0, none⟩) 0 0) 0 []) := by have := copy_new (wr.alloc (.cells #[.int .i64 kind, .string name, .string dst, .slice oda odata.length odc, .int .i64 n, .int .i64 m, .int .i64 odirs, .slice oca ocuts.length occ] 39)); rw [World.size_alloc] at this; exact this
          simp only [Nat.zero_mul, Nat.add_zero] at c0 c1 c2 c3 c4 c5 c6 c7
          have HMW : Hid (0 + more.length ≤ 140737488355328) := by have := HML.out; unfold Hid; omega
          clear hrp hki hsd hop how hSg hoX HRP HSDX HOPX HKI hbox hskip hn1 hd1 hBn hnlt
          go_wp2_with (first
            | (at_builtin; refine wpList_append_bytes _ rfl _ _ rfl (.slice (some ⟨wr.heap.size + 1, 0, none⟩) 0 0) (.slice ma more.length mc) 0 [] rfl rfl HNEW.out HSRC.out HMW.out ?_; intro a2 q2 w5 hown hgr hat; have hap := HAP.out a2 q2 w5 hown hgr hat; clear hown hgr hat)
            | (go_at_call 21; refine hap.mono ?_; rintro e w6 ⟨rfl, hB6, hpl⟩; generalize ((kp4 data).append keptN more).1 = ev; have y0 : w6.cell? ⟨wr.heap.size, 0, none⟩ = some (Value.int .i64 kind) := cell_of hB6 0; have y1 : w6.cell? ⟨wr.heap.size, 1, none⟩ = some (Value.string name) := cell_of hB6 1; have y2 : w6.cell? ⟨wr.heap.size, 2, none⟩ = some (Value.string dst) := cell_of hB6 2; have y3 : w6.cell? ⟨wr.heap.size, 3, none⟩ = some (Value.slice oda odata.length odc) := cell_of hB6 3; have y4 : w6.cell? ⟨wr.heap.size, 4, none⟩ = some (Value.int .i64 n) := cell_of hB6 4; have y5 : w6.cell? ⟨wr.heap.size, 5, none⟩ = some (Value.int .i64 m) := cell_of hB6 5; have y6 : w6.cell? ⟨wr.heap.size, 6, none⟩ = some (Value.int .i64 odirs) := cell_of hB6 6; have y7 : w6.cell? ⟨wr.heap.size, 7, none⟩ = some (Value.slice oca ocuts.length occ) := cell_of hB6 7; clear hap hB6 c0 c1 c2 c3 c4 c5 c6 c7)
            | (go_at_call 14; refine hpl.mono ?_; rintro e w7 ⟨⟨v7, rfl⟩, hfin⟩; have FIN := Lib.hid hfin; clear hfin hpl))
          go_roundw
          case rel => exact FIN.out
          case measure => simp [intOf]; omega
        · have e3 : ((k : Int) == 0) = false := by rw [beq_eq_false_iff_ne]; omega
          have hpl : Calls Try.prog 14 #[.pointer (some ⟨b, 0, none⟩), .agg #[.int .i64 kind, .string name, .string dst, .slice oda odata.length odc, .int .i64 n, .int .i64 m, .int .i64 odirs, .slice oca ocuts.length occ]] (wr.alloc (.cells #[.int .i64 kind, .string name, .string dst, .slice oda odata.length odc, .int .i64 n, .int .i64 m, .int .i64 odirs, .slice oca ocuts.length occ] 39)) fun e w' => (∃ v, e = .returned (errV v)) ∧
                  ∃ (k' : Nat) (ρ : Roles) (L : Lay) (s : Dm.St), k' ≤ l.length ∧ Value.int .i64 ((k : Int) + 1) = .int .i64 k' ∧ Rep w' b ρ L s ∧ KInv data more k' s ∧ Side (w.alloc (.cells #[.int .i64 dirs, .slice ca cuts.length cc] 26)) w' ρ := by
            have q3 := hki.steps
            have q4 := hki.chg
            refine (play_rep HRP.out hki.wf (by omega) (by omega) ⟨kind, name, dst, odata, n, m, odirs, ocuts⟩ (.slice oda odata.length odc) (.slice oca ocuts.length occ) HOPX.out).mono ?_
            rintro e w7 ⟨rfl, ρ7, L7, h7, m7⟩
            exact ⟨⟨_, rfl⟩, k + 1, ρ7, L7, _, by omega, rfl, h7, hki.play _ hn1 hd1 hnlt, HSDX.out.move m7⟩
          clear hrp hki hsd hop how hSg hoX HRP HSDX HOPX HKI hbox hskip hn1 hd1 hnlt
          go_wp2_with (go_at_call 14; refine hpl.mono ?_; rintro e w7 ⟨⟨v7, rfl⟩, hfin⟩; have FIN := Lib.hid hfin; clear hfin hpl)
          go_roundw
          case rel => exact FIN.out
          case measure => simp [intOf]; omega
    · have hkl : k = l.length := by omega
      subst hkl
      have hbx := (hsd.only.block w.heap.size (by simp) (fun x => x)).trans (heap_alloc_new w (.cells #[.int .i64 dirs, .slice ca cuts.length cc] 26))
      have y0 : wr.cell? ⟨w.heap.size, 0, none⟩ = some (Value.int .i64 dirs) := cell_of hbx 0
      have y1 : wr.cell? ⟨w.heap.size, 1, none⟩ = some (Value.slice ca cuts.length cc) := cell_of hbx 1
      have how := HOW.out.trans hsd.only
      obtain ⟨bs, hrd, hpre, hbl⟩ := hki.kp.crash (by decide) dirs cuts
      have q4 := hki.chg
      have hcrash := crash_rep hrp hki.wf dirs (.slice ca cuts.length cc) cuts (HC.out.kept (fun j hj => how.block j (HLT.out j hj) (fun x => x)) (fun j hj => ⟨Nat.lt_of_lt_of_le (HLT.out j hj) how.size, hsd.none j (Nat.lt_of_lt_of_le (HLT.out j hj) HOW.out.size)⟩)) (by omega)
      have HWF := Lib.hid (hki.wf.crash dirs cuts)
      have HRD := Lib.hid hrd
      have HSD9 := Lib.hid hsd
      have hpl := hpre.length_le
      have HPRE := Lib.hid hpre
      clear hrp hki hsd hrd hpre how hbx
      go_wp2_with (first
        | (go_at_call 15; refine hcrash.mono ?_; rintro e w9 ⟨rfl, ρ9, L9, h9, m9⟩; have SD9 := Lib.hid (HSD9.out.move m9); have hre := read_ok h9 HWF.out ⟨#[107, 101, 112, 116]⟩ (by decide) HRD.out; clear h9 m9 hcrash y0 y1)
        | (go_at_call 18; refine hre.mono ?_; rintro e w10 ⟨ra, rc, rfl, hnb, ho10⟩; have HNB := Lib.hid hnb; have HO10 := Lib.hid ho10; clear hnb ho10 hre))
      have hrl : bs.length ≤ rc ∧ BytesAt w10 (fun _ => True) (.slice ra data.length rc) data := by
        have hb := HNB.out.bytes
        rcases HNB.out.1.2 with ⟨h1, h2⟩ | ⟨g, cap, cur, h1, h2, h3, h4⟩
        · have hd0 : data = [] := List.eq_nil_of_length_eq_zero (by omega)
          obtain ⟨e1, e2, e3⟩ := Value.slice.inj h1
          subst e1 e3
          subst hd0
          exact ⟨by omega, .inl ⟨rfl, rfl⟩⟩
        · obtain ⟨e1, e2, e3⟩ := Value.slice.inj h1
          subst e1 e3
          refine ⟨?_, .inr ⟨⟨g, 0, none⟩, rc, rfl, fun _ => trivial, fun j x hx => ?_⟩⟩
          · exact h4.1
          · rcases hb with ⟨hb, _⟩ | ⟨ad, c, hb, _, hb2⟩
            · cases hb
            · obtain ⟨e1, _, _⟩ := Value.slice.inj hb
              cases e1
              refine hb2 j x ?_
              obtain ⟨t, ht⟩ := HPRE.out
              rw [← ht, List.getElem?_append_left (List.getElem?_eq_some_iff.1 hx).1]
              exact hx
      obtain ⟨hrc, hda⟩ := hrl
      have htx1 : ∀ nq, (convert 22 9 (.slice ra data.length rc)).run Try.prog (w10.drewN nq) = .ok (.string ⟨data.toArray⟩) (w10.drewN nq) := fun nq => (hda.kept (w' := w10.drewN nq) (S' := fun _ => True) (fun _ _ => by rw [heap_drewN]) (fun _ h => h)).text
      have htx1' : (convert 22 9 (.slice ra data.length rc)).run Try.prog w10 = .ok (.string ⟨data.toArray⟩) w10 := hda.text
      have hdd : BytesAt w10 S (.slice da data.length dc) data := HD.out.kept (fun j hj => ((HOW.out.trans SD9.out.only).trans HO10.out).block j (HLT.out j hj) (fun x => x)) (fun _ h => h)
      have htx2 : ∀ nq, (convert 22 9 (.slice da data.length dc)).run Try.prog (w10.drewN nq) = .ok (.string ⟨data.toArray⟩) (w10.drewN nq) := fun nq => (hdd.kept (w' := w10.drewN nq) (S' := S) (fun _ _ => by rw [heap_drewN]) (fun _ h => h)).text
      have htx2' : (convert 22 9 (.slice da data.length dc)).run Try.prog w10 = .ok (.string ⟨data.toArray⟩) w10 := hdd.text
      have hdl := HDL.out
      have hml := HML.out
      have hsl : ∀ w : World, (Instr.slice 22 (.slice ra bs.length rc) none (some (.int .i64 (data.length : Int))) none).run Try.prog w = .ok (.slice ra data.length rc) w := by
        intro w
        rw [run_slice_h (ht := by kernel_rfl) (h0 := by omega) (h2 := by omega)]
        have hsz : (sizeOf (Try.prog.elem 22)).run Try.prog w = .ok 1 w := by kernel_rfl
        rw [hsz]
        cases ra <;> simp [Result.andThen, sliced, Addr.add]
      have z1 : (data.length : Int) ≤ (bs.length : Int) := by omega
      have z2 : (bs.length : Int) ≤ (data.length : Int) + (more.length : Int) := by omega
      have z3 : IntKind.i64.wrap ((data.length : Int) + (more.length : Int)) = (data.length : Int) + (more.length : Int) := IntWalk.i64_in _ (by omega)
      clear hda hdd hrc hpl hbl hdl hml
      go_quiet (fail)
      have hod : Only (fun _ => False) w10 (w10.drewN nq) := ⟨rfl, rfl, rfl, Nat.le_refl _, fun _ _ _ => rfl⟩
      have HFIN := Lib.hid (((HOW.out.trans SD9.out.only).trans HO10.out).trans hod)
      go_wp2
      go_ret
      exact ⟨rfl, HFIN.out⟩

/-- keeps, whatever the input. -/
theorem keeps_any {w : World} {S : Nat → Prop} (hlt : ∀ k, S k → k < w.heap.size) {dv mv sv cv : Value} {data more : List UInt8} {l : List (OpD × Value × Value)} {cuts : List Int} (dirs : Int)
    (hd : BytesAt w S dv data) (hm : BytesAt w S mv more) (hs : ScriptAt w S sv l) (hc : IntsAt w S cv cuts) (hdl : data.length ≤ 140737488355328) (hml : more.length ≤ 140737488355328) (hll : l.length < 2 ^ 47) :
    Calls Try.prog 8 #[dv, sv, .agg #[.int .i64 dirs, cv], mv] w fun e w' => e = .returned (.bool true) ∧ Only (fun _ => False) w w' := by
  by_cases h : longS 0 (l.map (·.1)) = true ∨ 65536 < data.length ∨ 65536 < more.length
  · exact keeps_out hlt dirs hd hm hs hc hdl hml hll h
  · exact keeps_in hlt dirs hd hm hs hc (by omega) (by omega) hll (by simpa using fun e => h (.inl e))

end Go.Proofs.Ythjabfhfkikalaa
