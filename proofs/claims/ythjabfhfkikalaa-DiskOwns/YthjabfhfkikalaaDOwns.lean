/- The law DiskOwns. Conditions: rows within reach. -/
import Derived.Test.YthjabfhfkikalaaApart
import Derived.Test.YthjabfhfkikalaaTwice
namespace Go.Proofs.Ythjabfhfkikalaa
open Go.RowKit Go.Maps Go.WideMaps

def ow0 : Dm.St := Dm.St.new 131072
def ow1 : Dm.St := ⟨1, false, false, 0, [], 131072, [([97], 0)], [], [⟨[], [97], some 0⟩], [⟨[], 0⟩]⟩
def ow2 (data : List UInt8) : Dm.St := ⟨2, false, false, 0, [], 131072, [([97], 0)], [], [⟨[], [97], some 0⟩], [⟨data, 0⟩]⟩
theorem ow1_ok : ow0.create [97] = (0, ow1) := by rfl
theorem ow2_ok (data : List UInt8) (h : data.length ≤ 65536) : ow1.append [97] data = (0, ow2 data) := by
  have e1 : ow1.find [97] = (0, some 0) := by rfl
  have e2 : ow1.used = 0 := by rfl
  unfold Dm.St.append
  rw [e1]
  simp only [e2]
  rw [if_neg (by show ¬ 131072 < _; omega)]
  rfl
theorem ow1_wf : ow1.WF := by have := (Dm.St.WF.new (n := 131072) (by omega)).create [97]; exact this
theorem ow2_wf (data : List UInt8) (h : data.length ≤ 65536) : (ow2 data).WF := by have := ow1_wf.append [97] data; rw [ow2_ok data h] at this; exact this
theorem ow2_read (data : List UInt8) : (ow2 data).read [97] = (0, data) := by rfl
theorem ow2_all (data : List UInt8) : (ow2 data).all = [([97], data)] := by rfl
def aB : ByteArray := ⟨#[97]⟩

theorem rep_none {w : World} {b : Nat} {ρ : Roles} {L : Lay} {s : Dm.St} (h : Rep w b ρ L s) {k : Nat} (hk : w.heap.size ≤ k) : ρ k = none := by
  cases hx : ρ k with
  | none => rfl
  | some r => have := h.low k (by rw [hx]; simp); omega

/-- Blocks from Z on may have turned: the disk below stays. -/
theorem Rep.above {w w' : World} {b : Nat} {ρ : Roles} {L : Lay} {s : Dm.St} (h : Rep w b ρ L s) (ho : Only (fun k => w.heap.size ≤ k) w w') : Rep w' b ρ L s :=
  h.only ho fun _ hk hz => hk (rep_none h hz)

theorem files_one {w0 w : World} {fv : Value} {l : List (Value × Dm.Nm × List UInt8)} {nm : Dm.Nm} {data : List UInt8} (hl : l.map (·.2) = [(nm, data)]) (hr : FilesRow w0 w fv l) :
    ∃ fa fcc gf fc, fv = .slice (some ⟨gf, 0, none⟩) 1 fc ∧ w.cell? ⟨gf, 1, none⟩ = some (.slice fa data.length fcc) ∧ w.ownsRow 0 5 1 (.slice fa data.length fcc) data.length (data.map byteV) ∧ (∀ k, (Value.slice fa data.length fcc).ownBlock = some k → w0.heap.size ≤ k) ∧ gf < w.heap.size := by
  match l, hl with
  | [(fd, nm', data')], hl =>
    simp only [List.map_cons, List.map_nil, List.cons.injEq, Prod.mk.injEq, and_true] at hl
    obtain ⟨rfl, rfl⟩ := hl
    obtain ⟨h1, h2⟩ := hr.own _ (List.mem_singleton.2 rfl)
    obtain ⟨fa, fcc, hsh⟩ := row_shape h1
    simp only at h1 h2 hsh
    subst hsh
    rcases hr.row.2 with ⟨_, h0⟩ | ⟨gf, fc, cur, e1, _, hg, _⟩
    · simp at h0
    · refine ⟨fa, fcc, gf, fc, by simpa using e1, ?_, h1, fun k hk => (h2 k hk).1, lt_of_heap hg⟩
      have := hr.row.cells (g := gf) (by rw [e1]; rfl) 1 (.slice fa data'.length fcc) (by simp)
      rwa [add_lit, Nat.zero_add] at this

theorem dis_of {G : Nat} {vs : List (Value × Nat)} (s : Nat → Nat) (mono : ∀ i, s i ≤ s (i + 1)) (own : ∀ i (hi : i < vs.length) g, vs[i].1.ownBlock = some g → s i ≤ g ∧ g < s (i + 1)) (hG : s vs.length ≤ G) (len : ∀ i (hi : i < vs.length), vs[i].2 ≤ 1048576) : Dis G vs := by
  have up : ∀ i d, s i ≤ s (i + d) := fun i d => by
    induction d with
    | zero => exact Nat.le_refl _
    | succ d ih => exact Nat.le_trans ih (mono (i + d))
  have le : ∀ i j, i ≤ j → s i ≤ s j := fun i j h => by have := up i (j - i); rwa [show i + (j - i) = j by omega] at this
  refine ⟨fun i j hi hj hne g h1 h2 => ?_, fun i hi h1 => ?_, len⟩
  · have a := own i hi g h1
    have b := own j hj g h2
    rcases Nat.lt_or_ge i j with h | h
    · have := le (i + 1) j h; omega
    · have := le (j + 1) i (by omega); omega
  · have a := own i hi G h1
    have := le (i + 1) vs.length hi
    omega

theorem TextsAt.alloc {w : World} {v : Value} {l : List Dm.Nm} (h : TextsAt w v l) (o : Obj) : TextsAt (w.alloc o) v l := by
  obtain ⟨a, c, h1, h2⟩ := h
  refine ⟨a, c, h1, fun i hi => ?_⟩
  obtain ⟨g, e, hc⟩ := h2 i hi
  refine ⟨g, e, ?_⟩
  have hl : g < w.heap.size := by
    rcases Nat.lt_or_ge g w.heap.size with q | q
    · exact q
    · unfold World.cell? at hc
      rw [Array.getElem?_eq_none q] at hc
      cases hc
  rw [World.cell?_of_block (w := w) (Below.heap_alloc w o g hl)]
  exact hc
theorem texts_lit (w : World) : TextsAt (w.alloc (.cells #[.string ⟨#[97]⟩] 9)) (.slice (some ⟨w.heap.size, 0, none⟩) 1 1) [[97]] :=
  ⟨_, _, rfl, fun i hi => ⟨w.heap.size, rfl, by
    match i, hi with
    | 0, _ => rw [cell_of (heap_alloc_new w _)]; rfl⟩⟩

theorem byteBlk_of {w : World} {g c : Nat} {bs : List UInt8} (h : w.ownsRow 0 5 1 (.slice (some ⟨g, 0, none⟩) (bs.length + 2) c) (bs.length + 2) ((bs ++ [165, 90]).map byteV)) : ByteBlk w g bs.length := by
  rcases h.2 with ⟨h1, _⟩ | ⟨g', cap, cur, h1, _, h3, _⟩
  · cases h1
  · cases h1
    refine ⟨cur, h3, fun j hj => ⟨(bs[j].toNat : Int), ?_⟩⟩
    have := row_cell h (j := j) (x := bs[j]) (by rw [List.getElem?_append_left hj]; exact List.getElem?_eq_getElem hj)
    rwa [cell_of h3] at this

set_option maxRecDepth 100000 in
set_option maxHeartbeats 4000000 in
theorem owns_in {w : World} {S : Nat → Prop} (hlt : ∀ k, S k → k < w.heap.size) {dv : Value} {data : List UInt8} (hd : BytesAt w S dv data) (hlen : data.length ≤ 140737488355328) :
    Calls Try.prog 7 #[dv] w fun e w' => e = .returned (.bool true) ∧ Only (fun _ => False) w w' := by
  obtain ⟨da, dc, hds⟩ := hd.shape
  subst hds
  have hal := alive_any w
  by_cases hbig : 65536 < data.length
  · have hi : (65536 : Int) < (data.length : Int) := by omega
    clear hd hlt hbig
    go_enter Try.func7, Try.ntmps7
    go_wp2_with (go_at_call 9; refine hal.mono ?_; rintro e w1 ⟨rfl, ho1⟩; have HO1 := Lib.hid ho1; clear ho1 hal)
    go_ret
    exact ⟨rfl, HO1.out⟩
  · have hi : ¬ (65536 : Int) < (data.length : Int) := by omega
    have HDL : Hid (data.length ≤ 65536) := by unfold Hid; omega
    have HD : Hid (∀ w1, Only (fun _ => False) w w1 → BytesAt w1 (fun k => k < w.heap.size) (.slice da data.length dc) data) := fun w1 ho => hd.kept (fun k hk => ho.block k (hlt k hk) (fun x => x)) hlt
    clear hd hlt hbig hlen
    go_enter Try.func7, Try.ntmps7
    go_wp2_with (first
      | (go_at_call 9; refine hal.mono ?_; rintro e w1 ⟨rfl, ho1⟩; have HO1 := Lib.hid ho1; have hnew := new_ok 131072 w1 (by omega); clear ho1 hal)
      | (go_at_call 11; refine hnew.mono ?_; rintro e w2 ⟨b, ρ2, L2, rfl, h2, ho2, hn2, hb2⟩; have B2 := Lib.hid (Beside.mk (w0 := w) (ρ := ρ2) (HO1.out.trans ho2) (fun k hk => hn2 k (Nat.lt_of_lt_of_le hk HO1.out.size))); have hcr := (create_rep h2 (Dm.St.WF.new (by omega)) (by decide) (by decide) aB (by decide)).mono fun e w' hp => OpPost.well hp ow1_ok; unfold aB at hcr; clear h2 ho2 hn2 hb2 hnew HO1)
      | (go_at_call 20; refine hcr.mono ?_; rintro e w3 ⟨rfl, ρ3, L3, h3, m3⟩; have H3 := Lib.hid h3; have B3 := Lib.hid (B2.out.move m3); have hcp := copy_any (HD.out w3 B3.out.only) (fun k hk => Nat.lt_of_lt_of_le hk B3.out.only.size) (Nat.le_trans HDL.out (by decide)); clear h3 m3 hcr B2)
      | (go_at_call 33; refine hcp.mono ?_; rintro e w4 ⟨gm, cm, rfl, hrow, hgm, ho4⟩; have HRM := Lib.hid hrow; have HGM : Hid (w.heap.size ≤ gm) := Nat.le_trans B3.out.only.size hgm; have B4 := Lib.hid (B3.out.move (Moves.none ho4)); have HN4 : Hid (ρ3 gm = none) := rep_none H3.out hgm; have hap := (append_one (H3.out.only_none ho4) ow1_wf (by decide) aB (by decide) (v := .slice (some ⟨gm, 0, none⟩) data.length cm) (bs := data) ((row_pre hrow).kept (fun _ _ => rfl) (fun k hk => by have e : k = gm := hk; subst e; exact ⟨(hrow.lt k rfl).2, HN4.out⟩)) (Nat.le_trans HDL.out (by decide))).mono fun e w' hp => OpPost.well hp (ow2_ok data HDL.out); unfold aB at hap; clear hrow hgm ho4 hcp B3)
      | (go_at_call 21; refine hap.mono ?_; rintro e w5 ⟨rfl, ρ5, L5, h5, m5⟩; have H5 := Lib.hid h5; have hr5 := ownsRow_keep HRM.out fun g hg => (m5.only.block g (HRM.out.lt g hg).2 (fun e => by have e2 : gm = g := Option.some.inj hg; subst e2; exact e HN4.out)); have HR5 := Lib.hid hr5; have HN5 : Hid (ρ5 gm = none) := (m5.old gm (HRM.out.lt gm rfl).2).trans HN4.out; have B5 := Lib.hid (B4.out.move m5); have hkp := kept_any hr5 (HD.out w5 B5.out.only) (Nat.le_trans HDL.out (by decide)); have hov := over_any (c := cm) (byteBlk_of hr5) (Nat.le_trans HDL.out (by decide)); clear h5 m5 hap hr5 B4)
      | (go_at_call 34; refine hkp.mono ?_; rintro e w' ⟨rfl, rfl⟩)
      | (go_at_call 35; refine hov.mono ?_; rintro e w6 ⟨rfl, ho6⟩; have h6 := H5.out.only ho6 (fun k hk e => by have e2 : k = gm := e; subst e2; exact hk HN5.out); have H6 := Lib.hid h6; have O6 := Lib.hid (B5.out.only.andThen ho6 (fun k hk e => by have e2 : k = gm := e; have := HGM.out; omega)); have hrdA := read_ok h6 (ow2_wf data HDL.out) aB (by decide) (ow2_read data); unfold aB at hrdA; clear h6 ho6 hov hkp B5 HR5 HRM)
      | (go_at_call 18; refine hrdA.mono ?_; rintro e w7 ⟨xa, xc, rfl, hnx, ho7⟩; have NX := Lib.hid hnx; have OX := Lib.hid ho7; have hrdB := read_ok (H6.out.only_none ho7) (ow2_wf data HDL.out) aB (by decide) (ow2_read data); unfold aB at hrdB; clear hnx ho7 hrdA)
      | (go_at_call 18; refine hrdB.mono ?_; rintro e w8 ⟨ya, yc, rfl, hny, ho8⟩; have NY := Lib.hid hny; have OY := Lib.hid ho8; have hrdC := readAt_all (H6.out.only_none (OX.out.trans ho8)) (ow2_wf data HDL.out) aB (by decide) (ow2_read data); unfold aB at hrdC; clear hny ho8 hrdB)
      | (go_at_call 19; refine hrdC.mono ?_; rintro e w9 ⟨za, zc, rfl, hnz, ho9⟩; have NZ := Lib.hid hnz; have OZ := Lib.hid ho9; have hfi := files_own (H6.out.only_none ((OX.out.trans OY.out).trans ho9)) (ow2_wf data HDL.out); rw [ow2_all] at hfi; clear hnz ho9 hrdC)
      | (go_at_call 12; refine hfi.mono ?_; rintro e w10 ⟨fv, wf0, fl, rfl, hfl, hfr, hzf, ho10⟩; obtain ⟨fa, fcc, gf, fc, rfl, hf1, hf2, hf3, hf4⟩ := files_one hfl hfr; have F1 := Lib.hid hf1; have F2 := Lib.hid hf2; have F3 : Hid (∀ k, (Value.slice fa data.length fcc).ownBlock = some k → w9.heap.size ≤ k) := (fun k hk => Nat.le_trans hzf (hf3 k hk)); have F4 := Lib.hid hf4; have OF := Lib.hid ho10; have hli : Calls Try.prog 30 #[.pointer (some ⟨b, 0, none⟩)] w10 (fun e w' => ∃ a c, e = .returned (.slice a 1 c) ∧ NewNames w10 w' (.slice a 1 c) [([97], 0)] ∧ Only (fun _ => False) w10 w') := list_rep (H6.out.only_none (((OX.out.trans OY.out).trans OZ.out).trans ho10)) (ow2_wf data HDL.out); clear hfl hfr hzf ho10 hfi hf1 hf2 hf3 hf4)
      | (go_at_call 30; refine hli.mono ?_; rintro e w11 ⟨la, lc, rfl, hnl, ho11⟩; have NL := Lib.hid hnl; have OL := Lib.hid ho11; clear hnl ho11 hli))
    have z7 := OX.out.size
    have z8 := OY.out.size
    have z9 := OZ.out.size
    have z10 := OF.out.size
    have z11 := OL.out.size
    have bx : BytesAt w11 (fun _ => True) (.slice xa data.length xc) data := NX.out.bytes.kept (fun k hk => (((OY.out.trans OZ.out).trans OF.out).trans OL.out).block k (NX.out.1.lt k hk).2 (fun x => x)) (fun _ _ => trivial)
    have by_ : BytesAt w11 (fun _ => True) (.slice ya data.length yc) data := NY.out.bytes.kept (fun k hk => ((OZ.out.trans OF.out).trans OL.out).block k (NY.out.1.lt k hk).2 (fun x => x)) (fun _ _ => trivial)
    have bz : BytesAt w11 (fun _ => True) (.slice za data.length zc) data := NZ.out.bytes.kept (fun k hk => (OF.out.trans OL.out).block k (NZ.out.1.lt k hk).2 (fun x => x)) (fun _ _ => trivial)
    have bf : BytesAt w11 (fun _ => True) (.slice fa data.length fcc) data := (BytesAt.of_row F2.out).kept (fun k hk => OL.out.block k (F2.out.lt k hk).2 (fun x => x)) (fun _ _ => trivial)
    have O11 := Lib.hid (((((O6.out.trans OX.out).trans OY.out).trans OZ.out).trans OF.out).trans OL.out)
    have bd := HD.out w11 O11.out
    have tq : ∀ {T : Nat → Prop} {v : Value}, BytesAt w11 T v data → ∀ nq, (convert 22 9 v).run Try.prog (w11.drewN nq) = .ok (.string ⟨data.toArray⟩) (w11.drewN nq) := fun h nq => (h.kept (w' := w11.drewN nq) (S' := fun _ => True) (fun _ _ => by rw [heap_drewN]) (fun _ _ => trivial)).text
    have t1 := tq bx
    have t2 := tq by_
    have t3 := tq bz
    have t4 := tq bf
    have t5 := tq bd
    have s1 := bx.text
    have s2 := by_.text
    have s3 := bz.text
    have s4 := bf.text
    have s5 := bd.text
    have cf : w11.cell? ⟨gf, 1, none⟩ = some (.slice fa data.length fcc) := by rw [World.cell?_of_block (w := w10) (OL.out.block gf F4.out (fun x => x))]; exact F1.out
    clear tq bx by_ bz bf bd z7 z8 z9 z10 z11
    go_quiet (fail)
    obtain ⟨w12, hw12⟩ : ∃ q, q = w11.drewN nq := ⟨_, rfl⟩
    have hh12 : w12.heap = w11.heap := by rw [hw12]; exact heap_drewN nq
    have HO12 : Hid (Only (fun _ => False) w11 w12) := by rw [hw12]; exact ⟨rfl, rfl, rfl, Nat.le_refl _, fun _ _ _ => rfl⟩
    have cf12 : w12.cell? ⟨gf, 1, none⟩ = some (.slice fa data.length fcc) := by rw [World.cell?_of_block (w := w11) (by rw [hh12])]; exact cf
    have HH12 := Lib.hid hh12
    clear t1 t2 t3 t4 t5 s1 s2 s3 s4 s5 cf hh12
    rw [← hw12]
    clear hw12
    obtain ⟨w13, hw13⟩ : ∃ q, q = w12.alloc (.cells #[.slice xa data.length xc, .slice ya data.length yc, .slice za data.length zc, .slice fa data.length fcc] 22) := ⟨_, rfl⟩
    have HO13 : Hid (Only (fun _ => False) w12 w13) := by rw [hw13]; exact Only.alloc _
    have HB13 : Hid (w13.heap[w12.heap.size]? = some (.cells #[.slice xa data.length xc, .slice ya data.length yc, .slice za data.length zc, .slice fa data.length fcc] 22)) := by rw [hw13]; exact heap_alloc_new w12 _
    have HZ12 : Hid (w12.heap.size = w11.heap.size) := by unfold Hid; rw [HH12.out]
    have hap3 : Calls Try.prog 36 #[.slice (some ⟨w12.heap.size, 0, none⟩) 4 4] w13 fun e w' => e = .returned (.bool true) ∧ Only (fun q => w6.heap.size ≤ q ∧ q < w10.heap.size) w13 w' := by
      have z7 := OX.out.size
      have z8 := OY.out.size
      have z9 := OZ.out.size
      have z10 := OF.out.size
      have z11 := OL.out.size
      have e11 := HO12.out.trans HO13.out
      have own : ∀ i (hi : i < ([(Value.slice xa data.length xc, data.length), (Value.slice ya data.length yc, data.length), (Value.slice za data.length zc, data.length), (Value.slice fa data.length fcc, data.length)] : List (Value × Nat)).length) g, ([(Value.slice xa data.length xc, data.length), (Value.slice ya data.length yc, data.length), (Value.slice za data.length zc, data.length), (Value.slice fa data.length fcc, data.length)] : List (Value × Nat))[i].1.ownBlock = some g → (match i with | 0 => w6.heap.size | 1 => w7.heap.size | 2 => w8.heap.size | 3 => w9.heap.size | _ => w10.heap.size) ≤ g ∧ g < (match i with | 0 => w7.heap.size | 1 => w8.heap.size | 2 => w9.heap.size | _ => w10.heap.size) := by
        intro i hi g hg
        match i, hi, hg with
        | 0, _, hg => exact ⟨NX.out.2 g hg, (NX.out.1.lt g hg).2⟩
        | 1, _, hg => exact ⟨NY.out.2 g hg, (NY.out.1.lt g hg).2⟩
        | 2, _, hg => exact ⟨NZ.out.2 g hg, (NZ.out.1.lt g hg).2⟩
        | 3, _, hg => exact ⟨F3.out g hg, (F2.out.lt g hg).2⟩
      have hr : Rows1 w13 w12.heap.size [(Value.slice xa data.length xc, data.length), (Value.slice ya data.length yc, data.length), (Value.slice za data.length zc, data.length), (Value.slice fa data.length fcc, data.length)] 0 := {
        row := fun i hi => by
          match i, hi with
          | 0, _ => exact ⟨_, ownsRow_keep NX.out.1 fun k hk => ((((OY.out.trans OZ.out).trans OF.out).trans OL.out).trans e11).block k (NX.out.1.lt k hk).2 (fun x => x), fun h => absurd h (by omega)⟩
          | 1, _ => exact ⟨_, ownsRow_keep NY.out.1 fun k hk => (((OZ.out.trans OF.out).trans OL.out).trans e11).block k (NY.out.1.lt k hk).2 (fun x => x), fun h => absurd h (by omega)⟩
          | 2, _ => exact ⟨_, ownsRow_keep NZ.out.1 fun k hk => ((OF.out.trans OL.out).trans e11).block k (NZ.out.1.lt k hk).2 (fun x => x), fun h => absurd h (by omega)⟩
          | 3, _ => exact ⟨_, ownsRow_keep F2.out fun k hk => (OL.out.trans e11).block k (F2.out.lt k hk).2 (fun x => x), fun h => absurd h (by omega)⟩
        cell := fun i hi => by
          rw [cell_of HB13.out]
          match i, hi with
          | 0, _ => rfl
          | 1, _ => rfl
          | 2, _ => rfl
          | 3, _ => rfl
        lowG := lt_of_heap HB13.out }
      have hd : Dis w12.heap.size [(Value.slice xa data.length xc, data.length), (Value.slice ya data.length yc, data.length), (Value.slice za data.length zc, data.length), (Value.slice fa data.length fcc, data.length)] := by
        refine dis_of (fun i => match i with | 0 => w6.heap.size | 1 => w7.heap.size | 2 => w8.heap.size | 3 => w9.heap.size | _ => w10.heap.size) ?_ ?_ ?_ ?_
        · intro i
          match i with
          | 0 => exact z7
          | 1 => exact z8
          | 2 => exact z9
          | 3 => exact z10
          | _ + 4 => exact Nat.le_refl _
        · intro i hi g hg
          have := own i hi g hg
          match i, hi, this with
          | 0, _, h => exact h
          | 1, _, h => exact h
          | 2, _, h => exact h
          | 3, _, h => exact h
        · show w10.heap.size ≤ w12.heap.size
          rw [HZ12.out]; exact z11
        · intro i hi
          have hdl := HDL.out
          match i, hi with
          | 0, _ => show data.length ≤ _; omega
          | 1, _ => show data.length ≤ _; omega
          | 2, _ => show data.length ≤ _; omega
          | 3, _ => show data.length ≤ _; omega
      refine (apart_any (c := 4) hr hd (by simp)).mono ?_
      rintro e w' ⟨rfl, ho⟩
      refine ⟨rfl, ho.mono fun q _ ⟨i, hi, hq⟩ => ?_⟩
      have := own i hi q hq
      match i, hi, this with
      | 0, _, h => exact ⟨h.1, by have := h.2; show q < _; simp only at this; omega⟩
      | 1, _, h => exact ⟨by have := h.1; simp only at this; omega, by have := h.2; simp only at this; omega⟩
      | 2, _, h => exact ⟨by have := h.1; simp only at this; omega, by have := h.2; simp only at this; omega⟩
      | 3, _, h => exact ⟨by have := h.1; simp only at this; omega, h.2⟩
    -- the names
    obtain ⟨gl, rfl⟩ : ∃ gl, la = some ⟨gl, 0, none⟩ := by
      rcases NL.out.1.2 with ⟨_, h2⟩ | ⟨g, _, _, h1, _⟩
      · simp at h2
      · exact ⟨g, (Value.slice.inj h1).1⟩
    have HGL : Hid (∃ cur, w11.heap[gl]? = some (.cells cur 9 (0, 0)) ∧ cur[0]? = some (.string ⟨#[97]⟩) ∧ w10.heap.size ≤ gl ∧ gl < w11.heap.size) := by
      rcases NL.out.1.2 with ⟨h1, _⟩ | ⟨g, cap, cur, h1, _, h3, _⟩
      · cases h1
      · cases h1
        have hc := NL.out.1.cells (g := gl) rfl 0 (.string ⟨#[97]⟩) rfl
        have e0 : (⟨gl, 0, none⟩ : Addr).add 0 = ⟨gl, 0, none⟩ := by rw [add_lit]
        rw [e0, cell_of h3] at hc
        exact ⟨cur, h3, hc, NL.out.2 gl rfl, lt_of_heap h3⟩
    have HREP : Hid (∀ w', Only (fun q => w6.heap.size ≤ q) w6 w' → Rep w' b ρ5 L5 (ow2 data)) := fun w' ho => H6.out.above ho
    have HUP : Hid (Only (fun q => w6.heap.size ≤ q) w6 w13) := (((((((OX.out.trans OY.out).trans OZ.out).trans OF.out).trans OL.out).trans HO12.out).trans HO13.out)).mono fun _ _ h => h.elim
    have HZ6 : Hid (w.heap.size ≤ w6.heap.size) := O6.out.size
    have HEND : Hid (∀ w', Only (fun q => w6.heap.size ≤ q) w6 w' → Only (fun _ => False) w w') := fun w' ho => O6.out.andThen ho fun k hk h => by have := HZ6.out; omega
    have HZ610 : Hid (w6.heap.size ≤ w10.heap.size) := by
      have z7 := OX.out.size
      have z8 := OY.out.size
      have z9 := OZ.out.size
      have z10 := OF.out.size
      unfold Hid; omega
    have HK13 : Hid (∀ q, q < w11.heap.size → w13.heap[q]? = w11.heap[q]?) := fun q hq => (HO12.out.trans HO13.out).block q hq (fun x => x)
    have HL13 : Hid (w11.heap.size ≤ w13.heap.size) := (HO12.out.trans HO13.out).size
    subst hw13
    clear NX NY NZ F1 F2 F3 F4 OX OY OZ OF OL NL HB13 HO12 HO13 HH12 H6 H5 H3
    go_wp2_with (first
      | (go_at_call 36; refine hap3.mono ?_; rintro e w14 ⟨rfl, ho14⟩; obtain ⟨cur, hg1, hg2, hg3, hg4⟩ := HGL.out; have hb14 := (ho14.block gl (Nat.lt_of_lt_of_le hg4 HL13.out) (fun h => by have := h.2; omega)).trans ((HK13.out gl hg4).trans hg1); have cg : w14.cell? ⟨gl, 0, none⟩ = some (.string ⟨#[97]⟩) := (by rw [cell_of hb14]; exact hg2); have fg : w14.frozen? ⟨gl, 0, none⟩ = false := frozen_of hb14 0; have U15 : Hid (Only (fun q => w6.heap.size ≤ q) w6 (w14.setCell ⟨gl, 0, none⟩ (.string ⟨#[111, 118, 101, 114]⟩))) := (HUP.out.trans (ho14.mono fun q _ h => h.1)).trans ((Only.setCell ⟨gl, 0, none⟩ _).mono fun q _ h => by have e2 : q = gl := h; have := HZ610.out; omega); have hrd4 := read_ok (HREP.out _ U15.out) (ow2_wf data HDL.out) aB (by decide) (ow2_read data); unfold aB at hrd4; clear ho14 hg1 hg2 hg3 hg4 hb14 hap3)
      | (go_at_call 18; refine hrd4.mono ?_; rintro e w16 ⟨ra, rc, rfl, hnr, ho16⟩; have U16 := Lib.hid (U15.out.trans (ho16.mono fun _ _ h => h.elim)); have u1 := hnr.bytes.text; have u2 := (HD.out w16 (HEND.out _ U16.out)).text; have hli2 : Calls Try.prog 30 #[.pointer (some ⟨b, 0, none⟩)] w16 (fun e w' => ∃ a c, e = .returned (.slice a 1 c) ∧ NewNames w16 w' (.slice a 1 c) [([97], 0)] ∧ Only (fun _ => False) w16 w') := list_rep (HREP.out _ U16.out) (ow2_wf data HDL.out); clear hnr ho16 hrd4)
      | (go_at_call 30; refine hli2.mono ?_; rintro e w17 ⟨na, nc, rfl, hnn, ho17⟩; have U17 := Lib.hid (U16.out.trans (ho17.mono fun _ _ h => h.elim)); have htx := texts_same (hnn.texts.alloc (.cells #[.string ⟨#[97]⟩] 9)) (texts_lit w17) (by simp); clear hnn ho17 hli2 u1 u2)
      | (go_at_call 37; refine htx.mono ?_; rintro e w18 ⟨rfl, ho18⟩; have U18 := Lib.hid (U17.out.trans (((Only.alloc _).trans ho18).mono fun _ _ h => h.elim)); clear ho18 htx))
    go_ret
    exact ⟨by simp, HEND.out _ U18.out⟩

end Go.Proofs.Ythjabfhfkikalaa
