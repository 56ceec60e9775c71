/- Lists of frames that are the same, by the document's Same. Conditions: rows within the reach. -/
import Derived.Test.YtlfbdhgppmmahaaWiRefG
import Derived.Deep.RegionHeld3
namespace Go.Proofs.Ytlfbdhgppmmahaa
open Go.RowKit

theorem frCells_at : ∀ (fs : List Fr) (i j : Nat) (h : i < fs.length), j < 3 → (frCells fs)[i * 3 + j]? = [.int .i64 (fs[i].k.toNat : Int), fs[i].p.v, .int .i64 (fs[i].at' : Int)][j]?
  | f :: fs, i, j, h, hj => by
    have e : frCells (f :: fs) = [.int .i64 (f.k.toNat : Int), f.p.v, .int .i64 (f.at' : Int)] ++ frCells fs := by simp [frCells]
    rw [e]
    cases i with
    | zero => rw [List.getElem?_append_left (by simpa using hj), Nat.zero_mul, Nat.zero_add]; rfl
    | succ i =>
      rw [List.getElem?_append_right (by simp; omega), show (i + 1) * 3 + j - [Value.int .i64 (f.k.toNat : Int), f.p.v, .int .i64 (f.at' : Int)].length = i * 3 + j by simp; omega]
      exact frCells_at fs i j (by simpa using h) hj

/-- v holds frames: kinds, bodies, places. -/
def FramesAt (w : World) (v : Value) (l : List (UInt8 × List UInt8 × Nat)) : Prop :=
  ∃ a c, v = .slice a l.length c ∧ ∀ i (hi : i < l.length), ∃ g ua uc, a = some ⟨g, 0, none⟩ ∧ w.cell? ⟨g, i * 3, none⟩ = some (.int .i64 (l[i].1.toNat : Int)) ∧ w.cell? ⟨g, i * 3 + 1, none⟩ = some (.slice ua l[i].2.1.length uc) ∧ w.cell? ⟨g, i * 3 + 2, none⟩ = some (.int .i64 (l[i].2.2 : Int)) ∧ BytesAt w (fun k => k < w.heap.size) (.slice ua l[i].2.1.length uc) l[i].2.1

theorem FramesAt.of {w0 w : World} {v : Value} {fs : List Fr} (h : Frs w0 w v fs) (hb : ∀ i (hi : i < fs.length), BytesAt w (fun k => k < w.heap.size) fs[i].p.v fs[i].p.b) : FramesAt w v (fs.map frOf) := by
  obtain ⟨a, c, rfl⟩ := h.shape
  refine ⟨a, c, by simp, fun i hi => ?_⟩
  have hi' : i < fs.length := by simpa using hi
  obtain ⟨ua, uc, hu⟩ := (hb i hi').shape
  rcases h.row.2 with ⟨_, h0⟩ | ⟨q, cap, cur, e, _, _⟩
  · omega
  · obtain ⟨rfl, _, _⟩ := Value.slice.inj e
    have hc := h.row.cells (g := q) rfl
    have h1 : (fs.map frOf)[i] = frOf fs[i] := by simp
    refine ⟨q, ua, uc, rfl, ?_, ?_, ?_, ?_⟩
    · rw [h1]; simpa [frOf, add_lit] using hc _ _ (frCells_at fs i 0 hi' (by omega))
    · rw [h1]
      have := hc _ _ (frCells_at fs i 1 hi' (by omega))
      simp only [hu] at this
      simpa [frOf, add_lit] using this
    · rw [h1]; simpa [frOf, add_lit] using hc _ _ (frCells_at fs i 2 hi' (by omega))
    · rw [h1]
      have := hb i hi'
      rw [hu] at this
      exact this
theorem FramesAt.only {w w' : World} {v : Value} {l : List (UInt8 × List UInt8 × Nat)} (h : FramesAt w v l) (ho : Only (fun _ => False) w w') : FramesAt w' v l := by
  obtain ⟨a, c, e, h⟩ := h
  refine ⟨a, c, e, fun i hi => ?_⟩
  obtain ⟨g, ua, uc, e1, e2, e3, e4, e5⟩ := h i hi
  have lt := World.block_lt_of_cell? _ _ e2
  have hk := ho.block g lt (fun x => x)
  exact ⟨g, ua, uc, e1, by rw [World.cell?_of_block (w := w) hk]; exact e2, by rw [World.cell?_of_block (w := w) hk]; exact e3, by rw [World.cell?_of_block (w := w) hk]; exact e4, e5.here ho (fun _ h => h)⟩

set_option maxRecDepth 100000 in
set_option maxHeartbeats 4000000 in
theorem r4same_true {w : World} {v u : Value} {l : List (UInt8 × List UInt8 × Nat)} (hv : FramesAt w v l) (hu : FramesAt w u l) (hn : l.length ≤ 1048576) :
    Calls Try.prog 11 #[v, u] w fun e w' => e = .returned (.bool true) ∧ Only (fun _ => False) w w' := by
  obtain ⟨va, vc, rfl, -⟩ := id hv
  obtain ⟨ua, uc, rfl, -⟩ := id hu
  have HV := Lib.hid hv; have HU := Lib.hid hu
  clear hv hu
  go_enter Try.func11, Try.ntmps11
  go_wp2
  go_loopw [5] (fun iv wr => ∃ i : Nat, i ≤ l.length ∧ iv = .int .i64 i ∧ Only (fun _ => False) w wr) (fun iv _ => l.length - (intOf iv).toNat)
  case atStart => exact ⟨0, Nat.zero_le _, rfl, Only.refl _ _⟩
  case round =>
    obtain ⟨i, hi, rfl, ho⟩ := hrel
    by_cases hlt : i < l.length
    · obtain ⟨_, _, e0, hv1⟩ := HV.out.only ho
      obtain ⟨_, _, e1, hu1⟩ := HU.out.only ho
      obtain ⟨rfl, _, rfl⟩ := Value.slice.inj e0
      obtain ⟨rfl, _, rfl⟩ := Value.slice.inj e1
      obtain ⟨g, xa, xc, rfl, a1, a2, a3, ab⟩ := hv1 i hlt
      obtain ⟨q, ya, yc, rfl, b1, b2, b3, bb⟩ := hu1 i hlt
      have lt1 : g < wr.heap.size := World.block_lt_of_cell? _ _ a1
      have lt2 : q < wr.heap.size := World.block_lt_of_cell? _ _ b1
      have c1 : ∀ W, Only (fun _ => False) wr W → W.cell? ⟨g, i * 3, none⟩ = some (.int .i64 (l[i].1.toNat : Int)) := fun W h => by rw [World.cell?_of_block (w := wr) (h.block _ lt1 (fun x => x))]; exact a1
      have c2 : ∀ W, Only (fun _ => False) wr W → W.cell? ⟨g, i * 3 + 1, none⟩ = some (.slice xa l[i].2.1.length xc) := fun W h => by rw [World.cell?_of_block (w := wr) (h.block _ lt1 (fun x => x))]; exact a2
      have c3 : ∀ W, Only (fun _ => False) wr W → W.cell? ⟨g, i * 3 + 2, none⟩ = some (.int .i64 (l[i].2.2 : Int)) := fun W h => by rw [World.cell?_of_block (w := wr) (h.block _ lt1 (fun x => x))]; exact a3
      have d1 : ∀ W, Only (fun _ => False) wr W → W.cell? ⟨q, i * 3, none⟩ = some (.int .i64 (l[i].1.toNat : Int)) := fun W h => by rw [World.cell?_of_block (w := wr) (h.block _ lt2 (fun x => x))]; exact b1
      have d2 : ∀ W, Only (fun _ => False) wr W → W.cell? ⟨q, i * 3 + 1, none⟩ = some (.slice ya l[i].2.1.length yc) := fun W h => by rw [World.cell?_of_block (w := wr) (h.block _ lt2 (fun x => x))]; exact b2
      have d3 : ∀ W, Only (fun _ => False) wr W → W.cell? ⟨q, i * 3 + 2, none⟩ = some (.int .i64 (l[i].2.2 : Int)) := fun W h => by rw [World.cell?_of_block (w := wr) (h.block _ lt2 (fun x => x))]; exact b3
      have t1 : ∀ W, Only (fun _ => False) wr W → (convert 22 9 (.slice xa l[i].2.1.length xc)).run Try.prog W = .ok (.string ⟨l[i].2.1.toArray⟩) W := fun W h => (ab.here h (fun _ h => h)).text
      have t2 : ∀ W, Only (fun _ => False) wr W → (convert 22 9 (.slice ya l[i].2.1.length yc)).run Try.prog W = .ok (.string ⟨l[i].2.1.toArray⟩) W := fun W h => (bb.here h (fun _ h => h)).text
      have pz : 0 ≤ (i : Int) := by omega
      have mz : (i : Int) < (l.length : Int) := by omega
      have HO := Lib.hid ho
      have HD : Hid (Only (fun _ => False) wr wr.drew) := Only.drew
      clear ho hv1 hu1 a1 a2 a3 ab b1 b2 b3 bb lt1 lt2 e0 e1
      generalize l[i].2.1 = p at *
      generalize l[i].2.2 = P at *
      generalize l[i].1 = k at *
      go_wp2_with fail
      go_region_held3 (fun W => Only (fun _ => False) wr W) (first | exact HD.out) (first | fail)
      go_wp2_with fail
      exact ⟨⟨i + 1, by omega, by go_num, HO.out.trans HD.out⟩, by simp [intOf]; omega⟩
    · have HO := Lib.hid ho
      clear ho
      go_wp2
      go_ret
      exact ⟨rfl, HO.out⟩

end Go.Proofs.Ytlfbdhgppmmahaa
