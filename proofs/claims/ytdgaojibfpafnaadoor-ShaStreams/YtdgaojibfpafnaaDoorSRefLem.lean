/- What the walk of the document's own SHA-256 needs. Conditions: none. -/
import Derived.Test.YtdgaojibfpafnaaDoorSRef
namespace Go.Proofs.YtdgaojibfpafnaaDoor
open Go.RowKit

theorem Blk.ne_row {w : World} {g n q : Nat} {L xs : List Value} {t : TypeId} {v : Value} (h : Blk w g L t) (hr : w.ownsRow 0 5 1 v n xs) (ht : t ≠ 5) (hq : v.ownBlock = some q) : q ≠ g := by
  rintro rfl
  rcases hr.2 with ⟨e, _⟩ | ⟨g', cap, cur, e, _, hb, _⟩
  · rw [e] at hq; cases hq
  · rw [e] at hq
    have e1 : g' = q := Option.some.inj hq
    subst e1
    have h2 := h.heap
    rw [hb] at h2
    have h3 := Option.some.inj h2
    injection h3 with _ h4 _
    exact ht h4.symm

def kpairs : List (Nat × Value) := Sh.ks.zipIdx.map fun p => (p.2, wordV p.1)
theorem built_k : Tryd.prog.built 59 kpairs = some (Sh.ks.map wordV).toArray := by kernel_rfl
def hpairs : List (Nat × Value) := Sh.h0.list.zipIdx.map fun p => (p.2, wordV p.1)
theorem built_h : Tryd.prog.built 60 hpairs = some (scells Sh.h0).toArray := by kernel_rfl
theorem built_w : Tryd.prog.built 59 [] = some (wcells []).toArray := by kernel_rfl
theorem built_o : Tryd.prog.built 26 [] = some (ocells 32 []).toArray := by kernel_rfl
theorem size_64w : (Tryd.prog.info? 59).map (·.size) = some 64 := by kernel_rfl
theorem size_8w : (Tryd.prog.info? 60).map (·.size) = some 8 := by kernel_rfl

/-- What the loop over the blocks keeps. -/
structure RefIn (w wr : World) (gk gh : Nat) (mv : Value) (M : List UInt8) (s : Sh.V8) : Prop where
  res : Blk wr w.heap.size (ocells 32 []) 26
  k : Blk wr gk (Sh.ks.map wordV) 59
  h : Blk wr gh (scells s) 60
  row : Row w wr mv M
  gk : w.heap.size ≤ gk
  gh : w.heap.size ≤ gh

theorem RefIn.kept {w wr w1 : World} {gk gh : Nat} {mv : Value} {M : List UInt8} {s : Sh.V8} (h : RefIn w wr gk gh mv M s) (ho : Only (fun _ => False) wr w1) : RefIn w w1 gk gh mv M s :=
  ⟨h.res.keep ho (fun x => x), h.k.keep ho (fun x => x), h.h.keep ho (fun x => x), h.row.kept ho, h.gk, h.gh⟩

/-- The bytes of a block, from a row. -/
theorem row_cell {w wr : World} {bs : List UInt8} {a : Option Addr} {c : Nat} (h : Row w wr (.slice a bs.length c) bs) (hne : bs ≠ []) : ∃ g, a = some ⟨g, 0, none⟩ ∧ ∀ j, j < bs.length → wr.cell? ⟨g, j, none⟩ = some (.int .u8 ((bs.getD j 0).toNat : Int)) := by
  rcases h.row.2 with ⟨_, e⟩ | ⟨g, cap, cur, e, _⟩
  · exact absurd (List.eq_nil_of_length_eq_zero e) hne
  · obtain ⟨e1, _, _⟩ := Value.slice.inj e
    subst e1
    refine ⟨g, rfl, fun j hj => ?_⟩
    have := h.row.cells (g := g) rfl j (byteV bs[j]) (by simp [hj])
    rw [add_lit, Nat.zero_add] at this
    rw [this]
    simp [byteV, hj]

def partN (b : Nat → UInt8) : Nat → Nat
  | 0 => 0
  | q + 1 => partN b q * 256 + (b q).toNat
theorem partN_lt (b : Nat → UInt8) : ∀ q, partN b q < 256 ^ q
  | 0 => by simp [partN]
  | q + 1 => by
    have h1 := partN_lt b q
    have h2 := (b q).toNat_lt
    show partN b q * 256 + (b q).toNat < 256 ^ (q + 1)
    rw [Nat.pow_succ]
    omega
theorem partN_word (b : Nat → UInt8) : ((partN b 4 : Nat) : Int) = Sh.word (b 0) (b 1) (b 2) (b 3) := by
  simp only [partN, Sh.word]
  omega

theorem grow_take (ws : List Int) : ∀ n j, j ≤ n → (Sh.grow n ws).take (ws.length + j) = Sh.grow j ws
  | 0, j, h => by
    obtain rfl : j = 0 := by omega
    simp [Sh.grow]
  | n + 1, j, h => by
    by_cases e : j = n + 1
    · subst e
      exact List.take_of_length_le (by rw [grow_len]; omega)
    · rw [grow_snoc, List.take_append_of_le_length (by rw [grow_len]; omega)]
      exact grow_take ws n j (by omega)
theorem sched_take (blk : List UInt8) (t : Nat) (h1 : 16 ≤ t) (h2 : t ≤ 64) : (Sh.sched blk).take t = Sh.grow (t - 16) (Sh.first16 blk) := by
  have := grow_take (Sh.first16 blk) 48 (t - 16) (by omega)
  rw [first16_len, show 16 + (t - 16) = t by omega] at this
  exact this
theorem sched_take_low (blk : List UInt8) (t : Nat) (h : t ≤ 16) : (Sh.sched blk).take t = (Sh.first16 blk).take t := by
  have := sched_take blk 16 (by omega) (by omega)
  rw [show 16 - 16 = 0 from rfl] at this
  have e : (Sh.sched blk).take t = ((Sh.sched blk).take 16).take t := by rw [List.take_take, Nat.min_eq_left h]
  rw [e, this]
  rfl
theorem sched_take_len (blk : List UInt8) (t : Nat) (h : t ≤ 64) : ((Sh.sched blk).take t).length = t := by
  rw [List.length_take, sched_len]; omega
theorem sched_low_succ (blk : List UInt8) (t : Nat) (h : t < 16) : (Sh.sched blk).take (t + 1) = (Sh.sched blk).take t ++ [((partN (fun q => blk.getD (4 * t + q) 0) 4 : Nat) : Int)] := by
  rw [sched_take_low _ _ (by omega), sched_take_low _ _ (by omega), first16_take h, partN_word]
  rfl
theorem sched_high_succ (blk : List UInt8) (t : Nat) (h1 : 16 ≤ t) (h2 : t < 64) : (Sh.sched blk).take (t + 1) = (Sh.sched blk).take t ++ [Sh.next ((Sh.sched blk).take t)] := by
  rw [sched_take _ _ h1 (by omega), sched_take _ _ (by omega) (by omega), show t + 1 - 16 = (t - 16) + 1 by omega]
  exact grow_snoc _ _

theorem Row.base {w w2 wr : World} {ov : Value} {bs : List UInt8} (h : Row w2 wr ov bs) (ho : Only (fun _ => False) w w2) : Row w wr ov bs :=
  ⟨h.row, fun q hq => Nat.le_trans ho.size (h.own q hq), ho.trans h.only⟩

theorem or_byte (x : Nat) (b : UInt8) (h : x < 16777216) : bits .or .u32 ((x : Int) * 256) (b.toNat : Int) = ((x * 256 + b.toNat : Nat) : Int) := by
  have hb := b.toNat_lt
  exact or_add' x b.toNat 8 256 _ _ _ (by decide) (by omega) (by omega) (by omega) rfl rfl

end Go.Proofs.YtdgaojibfpafnaaDoor
