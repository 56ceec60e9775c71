/- (*words).over: the stream is put over a row itself. Conditions: the row ends within the stream. -/
import Derived.Test.YtgdnmbchhfbjoaaDoorCStream
namespace Go.Proofs.YtgdnmbchhfbjoaaDoor
open Go.RowKit

/-- The row as far as its first k bytes are under the stream. -/
def half (key nonce : List UInt8) (p : Nat) (bs : List UInt8) (k : Nat) : List UInt8 := Ch.xor key nonce p (bs.take k) ++ bs.drop k

theorem half_zero (key nonce : List UInt8) (p : Nat) (bs : List UInt8) : half key nonce p bs 0 = bs := by simp [half, Ch.xor]
theorem half_all (key nonce : List UInt8) (p : Nat) (bs : List UInt8) {k : Nat} (h : bs.length ≤ k) : half key nonce p bs k = Ch.xor key nonce p bs := by
  unfold half
  rw [List.take_of_length_le h, List.drop_of_length_le h, List.append_nil]
theorem half_length (key nonce : List UInt8) (p : Nat) (bs : List UInt8) (k : Nat) : (half key nonce p bs k).length = bs.length := by
  simp [half, Ch.xor_length]
  omega
theorem half_get (key nonce : List UInt8) (p : Nat) (bs : List UInt8) {k : Nat} (h : k < bs.length) : (half key nonce p bs k).getD k 0 = bs.getD k 0 := by
  have e : (half key nonce p bs k)[k]? = bs[k]? := by
    unfold half
    rw [List.getElem?_append_right (by rw [Ch.xor_length]; simp; omega), Ch.xor_length, List.getElem?_drop, List.length_take]
    congr 1
    omega
  simp only [List.getD_eq_getElem?_getD, e]
theorem half_set (key nonce : List UInt8) (p : Nat) (bs : List UInt8) {k : Nat} (h : k < bs.length) : (half key nonce p bs k).set k (bs.getD k 0 ^^^ Ch.byte key nonce (p + k)) = half key nonce p bs (k + 1) := by
  unfold half
  have hl : (Ch.xor key nonce p (bs.take k)).length = k := by rw [Ch.xor_length]; simp; omega
  have e : bs.take (k + 1) = bs.take k ++ [bs.getD k 0] := by
    rw [List.take_succ_eq_append_getElem h]
    simp [h]
  have ht : (bs.take k).length = k := by simp; omega
  rw [List.set_append_right _ _ (by omega), hl, Nat.sub_self, e, Ch.xor_append, ht, List.drop_eq_getElem_cons h, List.set_cons_zero, List.append_assoc]
  rfl

theorem byte_at (key nonce : List UInt8) {q i : Nat} (h : q % 64 + i < 64) : Ch.byte key nonce (q + i) = (Ch.block key nonce (q / 64)).getD (q % 64 + i) 0 := by
  unfold Ch.byte
  rw [show (q + i) / 64 = q / 64 by omega, show (q + i) % 64 = q % 64 + i by omega]

/-- What the loops of over keep. -/
structure Ovr (w wr : World) (b g : Nat) (key nonce : List UInt8) (p : Nat) (bs : List UInt8) (rest : List Value) (k : Nat) : Prop where
  row : Blk wr g ((half key nonce p bs k).map byteV ++ rest) 5
  only : Only (fun x => x = g) w wr

theorem Ovr.keep {w wr w' : World} {b g : Nat} {key nonce : List UInt8} {p : Nat} {bs : List UInt8} {rest : List Value} {k : Nat} (h : Ovr w wr b g key nonce p bs rest k) (ho : Only (fun _ => False) wr w') : Ovr w w' b g key nonce p bs rest k :=
  ⟨h.row.keep ho (fun x => x), h.only.trans (ho.mono (fun _ _ x => x.elim))⟩
theorem Ovr.cell {w wr : World} {b g : Nat} {key nonce : List UInt8} {p : Nat} {bs : List UInt8} {rest : List Value} {k : Nat} (h : Ovr w wr b g key nonce p bs rest k) (hk : k < bs.length) : wr.cell? ⟨g, k, none⟩ = some (.int .u8 ((bs.getD k 0).toNat : Int)) := by
  have hl := half_length key nonce p bs k
  rw [h.row.cell, List.getElem?_append_left (by rw [List.length_map, hl]; exact hk), List.getElem?_map]
  have : (half key nonce p bs k)[k]? = some (bs.getD k 0) := by
    rw [← half_get key nonce p bs hk]
    simp [hl, hk]
  rw [this]
  rfl
theorem Ovr.step {w wr : World} {b g : Nat} {key nonce : List UInt8} {p : Nat} {bs : List UInt8} {rest : List Value} {k : Nat} (h : Ovr w wr b g key nonce p bs rest k) (hk : k < bs.length) {y : UInt8} (hy : Ch.byte key nonce (p + k) = y) :
    Ovr w (wr.setCell ⟨g, k, none⟩ (.int .u8 (((bs.getD k 0) ^^^ y).toNat : Int))) b g key nonce p bs rest (k + 1) := by
  subst hy
  have hl := half_length key nonce p bs k
  refine ⟨?_, h.only.trans (Only.setCell ⟨g, k, none⟩ _)⟩
  have := h.row.set k (byteV (bs.getD k 0 ^^^ Ch.byte key nonce (p + k)))
  rw [List.set_append_left _ _ (by rw [List.length_map, hl]; exact hk), ← List.map_set, half_set key nonce p bs hk] at this
  exact this

/-- The row ends within the stream. -/
structure Fits (p n : Nat) : Prop where
  le : p + n ≤ 274877906944

/-- The row that is left. -/
def leftV (g c n k : Nat) (v : Value) : Prop := ∃ a, v = .slice a (n - k) (c - k) ∧ (k < n → a = some ⟨g, k, none⟩)

set_option maxRecDepth 100000 in
set_option maxHeartbeats 1000000 in
theorem over_any {w : World} {b g c : Nat} {key nonce : List UInt8} {p : Nat} {bs : List UInt8} {rest : List Value} {v : Value} (hst : w.rangeAt b 1 ((Ch.start key nonce 0).map wordV)) (hbg : b ≠ g) (hrow : Blk w g (bs.map byteV ++ rest) 5) (hv : leftV g c bs.length 0 v) (hc : bs.length ≤ c) (htop : Fits p bs.length) :
    Calls Tryd.prog 60 #[.pointer (some ⟨b, 1, none⟩), v, .int .i64 (p : Int)] w fun e w' => e = .returned (.tuple #[]) ∧ Blk w' g ((Ch.xor key nonce p bs).map byteV ++ rest) 5 ∧ Only (fun x => x = g) w w' := by
  have HST := Lib.hid hst; have HV := Lib.hid hv
  have h0 : Ovr w w b g key nonce p bs rest 0 := ⟨by rw [half_zero]; exact hrow, Only.refl _ _⟩
  have H0 := Lib.hid h0
  have hb0 : b < w.heap.size := by
    have := hst 0 (.int .u32 1634760805) (by simp [Ch.start, Ch.four, wordV])
    exact World.block_lt_of_cell? w _ this
  clear hst hrow h0
  obtain ⟨a0, hv0, _⟩ := hv
  subst hv0
  go_enter Tryd.func60, Tryd.ntmps60
  go_wp2
  go_loopw [1, 2] (fun rv pv wr => ∃ k : Nat, k ≤ bs.length ∧ leftV g c bs.length k rv ∧ pv = .int .i64 ((p + k : Nat) : Int) ∧ Ovr w wr b g key nonce p bs rest k) (fun rv _ _ => match rv with | .slice _ n _ => n | _ => 0)
  case atStart => exact ⟨0, Nat.zero_le _, HV.out, rfl, H0.out⟩
  case round =>
    obtain ⟨k, hk, ⟨ra, rfl, hra⟩, rfl, hs⟩ := hrel
    by_cases hlt : k < bs.length
    · obtain rfl := hra hlt
      obtain ⟨q, hq⟩ : ∃ q, p + k = q := ⟨_, rfl⟩
      obtain ⟨z, hz⟩ : ∃ z, q % 64 = z := ⟨_, rfl⟩
      obtain ⟨d, hd⟩ : ∃ d, q / 64 = d := ⟨_, rfl⟩
      obtain ⟨n, hn⟩ : ∃ n, bs.length - k = n := ⟨_, rfl⟩
      obtain ⟨m, hm⟩ : ∃ m, min (64 - z) n = m := ⟨_, rfl⟩
      have HBK : Hid (Calls Tryd.prog 71 #[.pointer (some ⟨b, 1, none⟩), .int .u32 (d : Int)] wr fun e w' => e = .returned (digV (Ch.block key nonce d)) ∧ Only (fun _ => False) wr w') := by
        have := block_any (rangeAt_only HST.out hs.only hbg) (Ch.start_length key nonce 0) (d : Int)
        rwa [start_set] at this
      have HBL := Lib.hid (Ch.block_length key nonce d)
      have hBY : ∀ i, i < m → Ch.byte key nonce (p + (k + i)) = (Ch.block key nonce d).getD (z + i) 0 := fun i hi => by
        have := byte_at key nonce (q := q) (i := i) (by omega)
        rw [← Nat.add_assoc, hq, this, hd, hz]
      have HBY := Lib.hid hBY
      have HS := Lib.hid hs
      have qd : (q : Int) / 64 = (d : Int) := by omega
      have qz : (q : Int) % 64 = (z : Int) := by omega
      have qd' : (q : Int).tdiv 64 = (d : Int) := by rw [Int.tdiv_eq_ediv_of_nonneg (by omega)]; exact qd
      have qz' : (q : Int).tmod 64 = (z : Int) := by rw [Int.tmod_eq_emod_of_nonneg (by omega)]; exact qz
      have hdw : IntKind.u32.wrap (d : Int) = (d : Int) := by have := htop.le; rw [IntKind.wrap_u32]; omega
      have hdm : (d : Int) % 4294967296 = (d : Int) := by have := htop.le; omega
      have hz64 : z < 64 := by omega
      have hn0 : 0 < n := by omega
      have hmn : m ≤ n := by omega
      have hmz : m ≤ 64 - z := by omega
      have hm0 : 0 < m := by omega
      have hzi : (z : Int) ≤ 64 := by omega
      have hnz : ¬ 64 = z := by omega
      have hsl : ∀ g1 (w1 : World), (Instr.sliceAt 86 (.pointer (some ⟨g1, 0, none⟩)) (some (.int .i64 (z : Int))) none none).run Tryd.prog w1 = .ok (.slice (some ⟨g1, z, none⟩) (64 - z) (64 - z)) w1 := fun g1 w1 => by
        rw [run_sliceAt_array_l (ht := by kernel_rfl) (h0 := by omega) (h1 := by rw [show Tryd.prog.arrayLen 86 = 64 by kernel_rfl]; omega)]
        have hsz : (sizeOf (Tryd.prog.elem 86)).run Tryd.prog w1 = .ok 1 w1 := by kernel_rfl
        rw [hsz, show Tryd.prog.arrayLen 86 = 64 by kernel_rfl, Int.toNat_natCast]
        simp only [Result.andThen, slicedAt, hnz, if_false, Nat.mul_one, add_lit, Nat.zero_add]
      have hmin2 : ∀ (ts : Array TypeId) (t : TypeId) (W : World), (Builtin.min_ ts t #[.int .i64 ((64 - z : Nat) : Int), .int .i64 (n : Int)]).run Tryd.prog W = .ok (.int .i64 (m : Int)) W := fun ts t W => by
        rw [run_min_int2]
        congr 2
        split <;> omega
      obtain ⟨ad', had, hsl2⟩ : ∃ ad' : Addr, (k + m < bs.length → ad' = ⟨g, k + m, none⟩) ∧ ∀ w : World, (Instr.slice 23 (.slice (some ⟨g, k, none⟩) n (c - k)) (some (.int .i64 (m : Int))) none none).run Tryd.prog w = .ok (.slice (some ad') (bs.length - (k + m)) (c - (k + m))) w := by
        refine ⟨if c - k = m then ⟨g, k, none⟩ else (⟨g, k, none⟩ : Addr).add m, fun h => ?_, fun w => ?_⟩
        · rw [if_neg (by omega), add_lit]
        · rw [run_slice_l (ht := by kernel_rfl) (h0 := by omega) (h1 := by omega)]
          have hsz : (sizeOf (Tryd.prog.elem 23)).run Tryd.prog w = .ok 1 w := by kernel_rfl
          rw [hsz, show bs.length - (k + m) = n - m by omega, show c - (k + m) = c - k - m by omega]
          by_cases e : c - k = m
          · simp [Result.andThen, sliced, e]
          · simp [Result.andThen, sliced, e]
      have HAD := Lib.hid had
      have HQ := Lib.hid hq
      have HN : Hid (n = bs.length - k) := hn.symm
      have hgw : g < wr.heap.size := hs.row.lt
      rw [hq, hn]
      clear had
      clear hs hBY hra hq hd hz
      generalize Ch.block key nonce d = B at *
      go_wp2_with (first
        | (go_at_call 71; refine HBK.out.mono ?_; rintro e w2 ⟨rfl, ho2⟩; have HS2 := Lib.hid (HS.out.keep ho2); clear ho2)
        | (refine wpList_store_row rfl 86 (.tmp 6) (.tmp 17) rfl w2.heap.size (B.map byteV).toArray rfl rfl 86 (ocells 64 []).toArray (heap_alloc_last _ _) (size_a64 HBL.out) (by simp [ocells, HBL.out]) (oneCell_bytes _) ?_; rw [World.setRow_alloc_new]
           have hs3 := HS2.out.keep (Only.alloc (.cells (B.map byteV).toArray 86))
           have hb3 := Blk.new w2 (B.map byteV) 86
           have hg3 : g ≠ w2.heap.size := by have := HS2.out.row.lt; omega
           have HS3 := Lib.hid hs3; have HB3 := Lib.hid hb3
           clear hs3 hb3
           generalize w2.alloc (.cells (B.map byteV).toArray 86) = w3 at *
           generalize w2.heap.size = gb at *))
      go_loopw [27] (fun iv w6 => ∃ i : Nat, i ≤ m ∧ iv = .int .i64 i ∧ Ovr w w6 b g key nonce p bs rest (k + i) ∧ Blk w6 gb (B.map byteV) 86) (fun iv _ => m - (intOf iv).toNat)
      case atStart => exact ⟨0, Nat.zero_le _, rfl, HS3.out, HB3.out⟩
      case round =>
        obtain ⟨i, hi, rfl, hs, hb⟩ := hrel
        by_cases hlt2 : i < m
        · have hkl : k + i < bs.length := by have := HN.out; omega
          have c1 := hs.cell hkl
          have c2 : wr.cell? ⟨gb, z + i, none⟩ = some (.int .u8 ((B.getD (z + i) 0).toNat : Int)) := byte_cell hb (by rw [HBL.out]; omega)
          have f1 := hs.row.frozen (k + i)
          have hnx := hs.step hkl (HBY.out i hlt2)
          have hbx : Blk (wr.setCell ⟨g, k + i, none⟩ (.int .u8 (((bs.getD (k + i) 0) ^^^ (B.getD (z + i) 0)).toNat : Int))) gb (B.map byteV) 86 := hb.setNe _ _ (Ne.symm hg3)
          have HNX := Lib.hid (hnx.keep Only.drew); have HBX := Lib.hid hbx.drew
          have m1 : (i : Int) < (n : Int) := by omega
          have m2 : (i : Int) < ((64 - z : Nat) : Int) := by omega
          have p1 : 0 ≤ (i : Int) := by omega
          clear hs hb hnx hbx HBY HS3 HB3 HS2 HS HBK
          generalize bs.getD (k + i) 0 = x at *
          generalize B.getD (z + i) 0 = y at *
          rw [← bits_xor_u8] at HNX HBX
          go_wp2
          go_region
          go_wp2
          go_roundw
          case rel => exact ⟨i + 1, by omega, by go_num, HNX.out, HBX.out⟩
          case measure => simp [intOf]; omega
        · obtain rfl : i = m := by omega
          have HS9 := Lib.hid hs
          have w9 : IntKind.i64.wrap ((q : Int) + (i : Int)) = (q : Int) + (i : Int) := by have := htop.le; have := HQ.out; have := HN.out; exact IntWalk.i64_in _ (by omega)
          clear hs hb HBY HS3 HB3 HS2 HS HBK
          go_wp2
          refine ⟨⟨k + i, by have := HN.out; omega, ⟨some ad', rfl, fun h => by rw [HAD.out h]⟩, ?_, HS9.out⟩, ?_⟩
          · congr 1
            have := HQ.out
            omega
          · have := HN.out
            simp
            omega
    · have hkl : k = bs.length := by omega
      have hfin := hs.row
      rw [hkl, half_all _ _ _ _ (Nat.le_refl _)] at hfin
      have HF := Lib.hid hfin; have HO := Lib.hid hs.only
      have e0 : bs.length - k = 0 := by omega
      rw [e0]
      clear hs hfin hra
      go_wp2
      go_end0
      exact ⟨rfl, HF.out, HO.out⟩

end Go.Proofs.YtgdnmbchhfbjoaaDoor
