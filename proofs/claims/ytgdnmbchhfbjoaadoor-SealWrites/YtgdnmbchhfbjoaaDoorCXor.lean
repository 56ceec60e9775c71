/- XOR of a Stream; chacha.XOR. Conditions: lengths within the reach. -/
import Derived.Test.YtgdnmbchhfbjoaaDoorCOver
namespace Go.Proofs.YtgdnmbchhfbjoaaDoor
open Go.RowKit

theorem over_none {w : World} {b c : Nat} {a : Option Addr} {p : Int} : Calls Tryd.prog 60 #[.pointer (some ⟨b, 1, none⟩), .slice a 0 c, .int .i64 p] w fun e w' => e = .returned (.tuple #[]) ∧ w = w' := by
  go_enter Tryd.func60, Tryd.ntmps60
  go_wp2
  go_loopw [1] (fun rv wr => rv = .slice a 0 c ∧ w = wr) (fun _ _ => 0)
  case atStart => exact ⟨rfl, rfl⟩
  case round =>
    obtain ⟨rfl, rfl⟩ := hrel
    go_wp2
    go_end0
    exact ⟨rfl, rfl⟩

theorem over_row {w : World} {b n : Nat} {key nonce : List UInt8} {p : Nat} {bs : List UInt8} {v : Value} (hst : w.rangeAt b 1 ((Ch.start key nonce 0).map wordV)) (hrow : w.ownsRow 0 5 1 v n (bs.map byteV)) (hn : bs.length = n) (hbv : v.ownBlock ≠ some b) (htop : Fits p n) :
    Calls Tryd.prog 60 #[.pointer (some ⟨b, 1, none⟩), v, .int .i64 (p : Int)] w fun e w' => e = .returned (.tuple #[]) ∧ w'.ownsRow 0 5 1 v n ((Ch.xor key nonce p bs).map byteV) ∧ Only (fun x => v.ownBlock = some x) w w' := by
  subst hn
  rcases hrow.2 with ⟨rfl, h0⟩ | ⟨g, cap, cur, rfl, hg0, hg, hcap, hmax, hsz, htk⟩
  · obtain rfl : bs = [] := List.eq_nil_of_length_eq_zero h0
    refine over_none.mono ?_
    rintro e w' ⟨rfl, rfl⟩
    exact ⟨rfl, by simpa [Ch.xor] using hrow, Only.refl _ _⟩
  · have hb : b ≠ g := fun e => hbv (by rw [e]; rfl)
    rw [Nat.mul_one] at htk
    have hcur : cur.toList = bs.map byteV ++ cur.toList.drop bs.length := by rw [← htk]; simp
    have hblk : Blk w g (bs.map byteV ++ cur.toList.drop bs.length) 5 := by unfold Blk; rw [← hcur]; simpa using hg
    refine (over_any hst hb hblk ⟨some ⟨g, 0, none⟩, rfl, fun _ => rfl⟩ hcap htop).mono ?_
    rintro e w' ⟨rfl, h1, h2⟩
    have hl := Ch.xor_length key nonce p bs
    refine ⟨rfl, ⟨by rw [List.length_map, hl, Nat.mul_one], .inr ⟨g, cap, _, rfl, hg0, h1.heap, hcap, hmax, ?_, ?_⟩⟩, h2.mono (fun k _ e => by rw [e]; rfl)⟩
    · have : cur.toList.length = cap * 1 := by simpa using hsz
      simp [hl]
      omega
    · rw [Nat.mul_one, List.take_append_of_le_length (by rw [List.length_map, hl]; exact Nat.le_refl _)]
      exact List.take_of_length_le (by rw [List.length_map, hl]; exact Nat.le_refl _)

/-- How many bytes the first i parts have. -/
def upTo (ps : List (List UInt8)) (i : Nat) : Nat := (ps.take i).flatten.length
theorem upTo_zero (ps : List (List UInt8)) : upTo ps 0 = 0 := by simp [upTo]
theorem upTo_succ {ps : List (List UInt8)} {i : Nat} (h : i < ps.length) : upTo ps (i + 1) = upTo ps i + ps[i].length := by
  unfold upTo; rw [flatten_take_succ h, List.length_append]
theorem upTo_le (ps : List (List UInt8)) (i : Nat) : upTo ps i ≤ ps.flatten.length := flatten_take_le ps i
theorem upTo_all {ps : List (List UInt8)} {i : Nat} (h : ps.length ≤ i) : upTo ps i = ps.flatten.length := by unfold upTo; rw [List.take_of_length_le h]

/-- What the first loop of XOR keeps. -/
structure Beh (w wr : World) (ps : List (List UInt8)) (p i : Nat) : Prop where
  seat : Blk wr w.heap.size [.int .i64 ((p + upTo ps i : Nat) : Int)] 97
  only : Only (fun _ => False) w wr
  top : p + upTo ps i ≤ 274877906944

/-- What the second loop of XOR keeps: the row so far. -/
structure Out (w wr : World) (v : Value) (ps : List (List UInt8)) (i : Nat) : Prop where
  row : wr.ownsRow 0 5 1 v (upTo ps i) (((ps.take i).flatten).map byteV)
  new : ∀ g, v.ownBlock = some g → w.heap.size < g

/-- Parts are few. -/
structure Few (n : Nat) : Prop where
  le : n ≤ 1048576

set_option maxRecDepth 100000 in
set_option maxHeartbeats 2000000 in
theorem sXOR_any {w : World} {b : Nat} {key nonce : List UInt8} {p : Nat} (h : StreamAt w b key nonce p) {S : Nat → Prop} {v : Value} {ps : List (List UInt8)} (hv : PartsAt w S v ps) (hS : ∀ k, S k → k < w.heap.size) (hfew : Few ps.length) (hlen : Few ps.flatten.length) :
    Calls Tryd.prog 49 #[.pointer (some ⟨b, 0, none⟩), v] w fun e w' =>
      (p + ps.flatten.length ≤ 274877906944 ∧ ∃ u, e = .returned (.tuple #[u, .nilIface]) ∧ w'.ownsRow 0 5 1 u ps.flatten.length ((Ch.xor key nonce p ps.flatten).map byteV) ∧ (∀ g, u.ownBlock = some g → w.heap.size ≤ g) ∧ StreamAt w' b key nonce (p + ps.flatten.length) ∧ Only (fun k => k = b) w w') ∨
      (274877906944 < p + ps.flatten.length ∧ e = .returned (.tuple #[.slice none 0 0, errV 8]) ∧ Only (fun _ => False) w w') := by
  obtain ⟨va, vc, rfl, hcp, hat⟩ := id hv
  have hc := h.cell
  have H := Lib.hid h; have HV := Lib.hid hv; have HAT := Lib.hid hat; have HS := Lib.hid hS
  have hb0 := h.blk.lt
  clear h hv hat hS
  go_enter Tryd.func49, Tryd.ntmps49
  go_wp2
  go_loopw [22] (fun iv wr => ∃ i : Nat, i ≤ ps.length ∧ iv = .int .i64 i ∧ Beh w wr ps p i) (fun iv _ => ps.length - (intOf iv).toNat)
  case atStart =>
    refine ⟨0, Nat.zero_le _, rfl, ?_, Only.alloc _, ?_⟩
    · rw [upTo_zero]; exact Blk.new w [.int .i64 (p : Int)] 97
    · rw [upTo_zero]; exact H.out.top
  case round =>
    obtain ⟨i, hi, rfl, hs⟩ := hrel
    by_cases hlt : i < ps.length
    · obtain ⟨ad, u, rfl, hsb, hcell, hby⟩ := HAT.out i hlt
      have hsb' := HS.out _ hsb
      have c1 : wr.cell? (ad.add i) = some u := by
        rw [World.cell?_of_block (w := w) (by rw [add_block]; exact hs.only.block _ hsb' (fun x => x))]
        exact hcell
      obtain ⟨ua, uc, rfl⟩ := hby.shape
      have hT := upTo_succ hlt
      have hTl := upTo_le ps (i + 1)
      have hTT := hlen.le
      obtain ⟨lu, hlu⟩ : ∃ lu, ps[i].length = lu := ⟨_, rfl⟩
      obtain ⟨t0, ht0⟩ : ∃ t0, p + upTo ps i = t0 := ⟨_, rfl⟩
      have ht1 : p + upTo ps (i + 1) = t0 + lu := by omega
      have htop := hs.top
      have c2 : wr.cell? ⟨w.heap.size, 0, none⟩ = some (.int .i64 (t0 : Int)) := by rw [hs.seat.cell, ht0]; rfl
      have f2 := hs.seat.frozen 0
      have hst := hs.seat.set 0 (.int .i64 ((t0 + lu : Nat) : Int))
      have hso : Only (fun _ => False) w (wr.setCell ⟨w.heap.size, 0, none⟩ (.int .i64 ((t0 + lu : Nat) : Int))) := hs.only.andThen (Only.setCell ⟨w.heap.size, 0, none⟩ _) (fun k hk e => by simp at e; omega)
      have hww : IntKind.i64.wrap ((t0 : Int) + (lu : Int)) = (t0 : Int) + (lu : Int) := IntWalk.i64_in _ (by omega)
      have HO := Lib.hid hs.only
      rw [hlu] at c1
      have pz : 0 ≤ (i : Int) := by omega
      have mz : (i : Int) < (ps.length : Int) := by omega
      have hw1 : IntKind.i64.wrap ((i : Int) + 1) = (i : Int) + 1 := by have := hfew.le; exact IntWalk.i64_in _ (by omega)
      by_cases hfit : t0 + lu ≤ 274877906944
      · have hm := move_ok c2 f2 hfit
        rw [Int.natCast_add] at hm
        have HM := Lib.hid hm
        have hnx : Beh w (wr.setCell ⟨w.heap.size, 0, none⟩ (.int .i64 ((t0 : Int) + (lu : Int)))) ps p (i + 1) := by
          rw [← Int.natCast_add]
          refine ⟨?_, hso, by omega⟩
          rw [ht1]
          exact hst
        have HNX := Lib.hid hnx
        clear hs hst hso hm hnx htop ht0 ht1 hT hTl hTT hfit hlu hcell hby hsb hsb' H HV
        go_wp2_with (go_at_call 59; refine HM.out.mono ?_; rintro e w' ⟨rfl, rfl⟩)
        go_roundw
        case rel => exact ⟨i + 1, by omega, by go_num, HNX.out⟩
        case measure => simp [intOf]; omega
      · have hm := move_err (w := wr) (a := ⟨w.heap.size, 0, none⟩) (q := (t0 : Int) + (lu : Int)) (.inr (by omega))
        have HM := Lib.hid hm
        have HX : Hid (274877906944 < p + ps.flatten.length) := by show _ < _; omega
        clear hs hst hso hm htop ht0 ht1 hT hTl hTT hfit hlu hcell hby hsb hsb' H HV
        go_wp2_with (go_at_call 59; refine HM.out.mono ?_; rintro e w' ⟨rfl, rfl⟩)
        go_ret2
        exact .inr ⟨HX.out, rfl, HO.out⟩
    · have hT := upTo_all (ps := ps) (i := i) (by omega)
      have hseat := hs.seat
      have htop := hs.top
      rw [hT] at hseat htop
      obtain ⟨T, hTT⟩ : ∃ T, ps.flatten.length = T := ⟨_, rfl⟩
      rw [hTT] at hseat htop
      have c2 : wr.cell? ⟨w.heap.size, 0, none⟩ = some (.int .i64 ((p + T : Nat) : Int)) := by rw [hseat.cell]; rfl
      have c3 : wr.cell? ⟨b, 0, none⟩ = some (.int .i64 (p : Int)) := (H.out.keep hs.only (fun x => x)).cell
      have hlT := hlen.le
      rw [hTT] at hlT
      have hsub : (p : Int) + (T : Int) - (p : Int) = (T : Int) := by omega
      have hw1 : IntKind.i64.wrap (((p + T : Nat) : Int) - (p : Int)) = (T : Int) := by rw [IntWalk.i64_in _ (by omega)]; omega
      have HSEAT := Lib.hid hseat; have HO := Lib.hid hs.only; have HTT := Lib.hid hTT
      obtain ⟨q, hq⟩ : ∃ q, p + T = q := ⟨_, rfl⟩
      rw [hq] at c2 hw1
      have HQ := Lib.hid hq; have HTOP := Lib.hid htop
      obtain rfl : i = ps.length := by omega
      clear hs hseat htop hT hTT hq
      go_wp2
      go_still_tail 8, (by kernel_rfl)
      change wpList _ _ _ _ _ wr.drew
      obtain ⟨i0, hi0, hz0, hz1, hz2⟩ := info_parts info_u8
      refine wpList_make_own _ rfl _ _ 23 rfl 0 5 i0 _ 1 Tryd.underlying23 hi0 hz0 hz1 .i64 .i64 _ T rfl rfl rfl (by rw [hz2]; omega) (by unfold maxLen; omega) (Nat.zero_le _) ?_
      intro w1 hr1 hg1
      have ho1 : Only (fun _ => False) wr w1 := (Only.drew.trans ((Only.of_grown hg1).mono fun k _ h => by cases h))
      have HOUT : Hid (Out w w1 (.slice (some ⟨wr.drew.heap.size, 0, none⟩) 0 T) ps 0) := by
        refine ⟨?_, fun g hg => ?_⟩
        · simpa [upTo] using hr1
        · have e : wr.drew.heap.size = g := Option.some.inj hg
          have := HSEAT.out.lt
          rw [← e]
          exact this
      have HSE1 := Lib.hid (HSEAT.out.keep ho1 (fun x => x)); have HO1 := Lib.hid (HO.out.trans ho1)
      clear hr1 hg1 ho1 HSEAT HO c2 c3 hw1 hsub hi0 hz0 hz1 hz2
      generalize wr.drew.heap.size = g1 at *
      go_wp2
      go_loopw [10, 47] (fun ov iv w6 => ∃ i : Nat, i ≤ ps.length ∧ iv = .int .i64 i ∧ Out w w6 ov ps i ∧ Blk w6 w.heap.size [.int .i64 ((p + T : Nat) : Int)] 97 ∧ Only (fun _ => False) w w6) (fun _ iv _ => ps.length - (intOf iv).toNat)
      case atStart => exact ⟨0, Nat.zero_le _, rfl, HOUT.out, HSE1.out, HO1.out⟩
      case round =>
        obtain ⟨i, hi, rfl, hs, hse, ho⟩ := hrel
        obtain ⟨oa, oc, rfl⟩ := row_shape hs.row
        by_cases hlt : i < ps.length
        · obtain ⟨ad, u, rfl, hsb, hcell, hby⟩ := HAT.out i hlt
          have hsb' := HS.out _ hsb
          have c1 : wr.cell? (ad.add i) = some u := by
            rw [World.cell?_of_block (w := w) (by rw [add_block]; exact ho.block _ hsb' (fun x => x))]
            exact hcell
          have hby' : BytesAt wr S u ps[i] := hby.only ho (fun k hk => HS.out k hk) (fun _ _ x => x)
          obtain ⟨ua, uc, rfl⟩ := hby.shape
          have hT := upTo_succ hlt
          have hfl := flatten_take_succ hlt
          have hTl := upTo_le ps (i + 1)
          have hTT := hlen.le
          have hbnd : upTo ps i + ps[i].length ≤ 140737488355328 := by omega
          have HBY := Lib.hid hby'; have HROW := Lib.hid hs.row; have HNEW := Lib.hid hs.new; have HBND := Lib.hid hbnd
          have HNX : Hid (∀ a' c' w', w'.ownsRow 0 5 1 (.slice a' (upTo ps i + ps[i].length) c') (upTo ps i + ps[i].length) (((ps.take i).flatten).map byteV ++ (ps[i]).map byteV) → wr.grownBy w' (Value.slice oa (upTo ps i) oc).ownBlock →
              ((Value.slice a' (upTo ps i + ps[i].length) c').ownBlock = (Value.slice oa (upTo ps i) oc).ownBlock ∨ (Value.slice a' (upTo ps i + ps[i].length) c').ownBlock = some wr.heap.size) →
              Out w w' (.slice a' (upTo ps i + ps[i].length) c') ps (i + 1) ∧ Blk w' w.heap.size [.int .i64 ((p + T : Nat) : Int)] 97 ∧ Only (fun _ => False) w w') := by
            intro a' c' w' h1 h2 h3
            have ho' : Only (fun k => w.heap.size < k) wr w' := (Only.of_grown h2).mono fun k _ e => hs.new k e.symm
            refine ⟨⟨?_, fun g hg => ?_⟩, hse.keep ho' (by omega), ho.andThen ho' (fun k hk e => by omega)⟩
            · rw [hT, hfl, List.map_append]; exact h1
            · rcases h3 with h3 | h3
              · exact hs.new g (h3.symm.trans hg)
              · have e : g = wr.heap.size := Option.some.inj (hg.symm.trans h3)
                have := hse.lt
                omega
          have pz : 0 ≤ (i : Int) := by omega
          have mz : (i : Int) < (ps.length : Int) := by omega
          have hw1 : IntKind.i64.wrap ((i : Int) + 1) = (i : Int) + 1 := by have := hfew.le; exact IntWalk.i64_in _ (by omega)
          clear hs hse ho hby hby' hT hfl hTl hTT hbnd hcell hsb hsb' HOUT HSE1 HO1
          generalize hlu : ps[i].length = lu at *
          generalize upTo ps i = t0 at *
          go_wp2_with (at_builtin; refine wpList_append_bytes _ rfl _ _ rfl (.slice oa t0 oc) (.slice ua lu uc) t0 _ rfl rfl HROW.out HBY.out (by rw [hlu]; exact HBND.out) ?_; intro a1 c1' w2 hr2 hg2 hat2; rw [hlu] at hr2 hat2; have HN2 := Lib.hid (HNX.out a1 c1' w2 hr2 hg2 hat2); clear hr2 hg2 hat2; rw [hlu])
          go_roundw
          case rel => exact ⟨i + 1, by omega, by go_num, HN2.out.1, HN2.out.2.1, HN2.out.2.2⟩
          case measure => simp [intOf]; omega
        · have hT := upTo_all (ps := ps) (i := i) (by omega)
          have hrow := hs.row
          have hnew := hs.new
          rw [List.take_of_length_le (by omega), hT, HTT.out] at hrow
          rw [hT, HTT.out] at hnew
          rw [hT, HTT.out]
          obtain rfl : i = ps.length := by omega
          have hS1 : StreamAt wr b key nonce p := H.out.keep ho (fun x => x)
          have hov := over_row (w := wr.drew) (v := .slice oa T oc) (p := p) (b := b) (key := key) (nonce := nonce) (bs := ps.flatten) hS1.range hrow HTT.out (fun e => by have := hnew b e; omega) ⟨by have := HQ.out; have := HTOP.out; omega⟩
          have c3 := hS1.cell
          have HOV := Lib.hid hov
          have HNX : Hid (∀ w9 : World, w9.ownsRow 0 5 1 (.slice oa T oc) T ((Ch.xor key nonce p ps.flatten).map byteV) → Only (fun x => (Value.slice oa T oc).ownBlock = some x) wr.drew w9 →
              w9.cell? ⟨w.heap.size, 0, none⟩ = some (.int .i64 (q : Int)) ∧ w9.cell? ⟨b, 0, none⟩ = some (.int .i64 (p : Int)) ∧ w9.frozen? ⟨b, 0, none⟩ = false ∧
              ((w9.setCell ⟨b, 0, none⟩ (.int .i64 (q : Int))).ownsRow 0 5 1 (.slice oa T oc) T ((Ch.xor key nonce p ps.flatten).map byteV) ∧ StreamAt (w9.setCell ⟨b, 0, none⟩ (.int .i64 (q : Int))) b key nonce (p + T) ∧ Only (fun k => k = b) w (w9.setCell ⟨b, 0, none⟩ (.int .i64 (q : Int))))) := by
            intro w9 hr9 ho9
            have hq := HQ.out
            have hb9 : ¬ (Value.slice oa T oc).ownBlock = some b := fun e => by have := hnew b e; omega
            have h9 := (hS1.keep Only.drew (fun x => x)).keep ho9 hb9
            have hse9 := (hse.drew).keep ho9 (fun e => by have := hnew _ e; omega)
            refine ⟨by rw [hse9.cell, hq]; rfl, h9.cell, h9.blk.frozen 0, ownsRow_keep hr9 (fun g hg => heap_setCell_ne _ _ (fun e => hb9 (by rw [hg, e]))), ?_, ?_⟩
            · rw [hq]
              exact h9.set (by have := HTOP.out; omega)
            · exact (((ho.trans Only.drew).andThen ho9 (fun k hk e => by have := hnew k e; omega)).mono (fun _ _ x => x.elim)).trans (Only.setCell ⟨b, 0, none⟩ _)
          have HNEW : Hid (∀ g, (Value.slice oa T oc).ownBlock = some g → w.heap.size ≤ g) := fun g hg => Nat.le_of_lt (hnew g hg)
          clear hov hs hse ho hrow hnew hT hS1 HOUT HSE1 HO1
          go_wp2
          go_still_tail 9, (by kernel_rfl)
          change wpList _ _ _ _ _ wr.drew
          generalize wr.drew = w5 at *
          go_wp2_with (go_at_call 60; refine HOV.out.mono ?_; rintro e w9 ⟨rfl, hr9, ho9⟩; obtain ⟨d1, d2, d3, hfin⟩ := HNX.out w9 hr9 ho9; have HFIN := Lib.hid hfin; clear hfin hr9 ho9)
          go_ret2
          refine .inl ⟨by have := HTOP.out; have := HQ.out; have := HTT.out; omega, _, rfl, ?_, HNEW.out, ?_, HFIN.out.2.2⟩
          · rw [HTT.out]; exact HFIN.out.1
          · rw [HTT.out]; exact HFIN.out.2.1

theorem sXOR_nil {w : World} {v : Value} : Calls Tryd.prog 49 #[.pointer none, v] w fun e w' => e = .returned (.tuple #[.slice none 0 0, .iface 45 (.int .i64 8)]) ∧ w = w' := by
  go_enter Tryd.func49, Tryd.ntmps49
  go_wp2
  go_ret2
  exact ⟨rfl, rfl⟩

/-- A place and a row that fit into the stream. -/
def Within (at' : Int) (n : Nat) : Prop := 0 ≤ at' ∧ at' + n ≤ 274877906944

set_option maxRecDepth 100000 in
set_option maxHeartbeats 2000000 in
theorem cXOR_any {w : World} {key nonce : List UInt8} (hk : key.length = 32) (hn : nonce.length = 12) {at' : Int} {S : Nat → Prop} {v : Value} {bs : List UInt8} (hv : BytesAt w S v bs) (hS : ∀ k, S k → k < w.heap.size) (hlen : Few bs.length) :
    Calls Tryd.prog 31 #[digV key, digV nonce, .int .i64 at', v] w fun e w' =>
      (Within at' bs.length ∧ ∃ u, e = .returned (.tuple #[u, .nilIface]) ∧ w'.ownsRow 0 5 1 u bs.length ((Ch.xor key nonce at'.toNat bs).map byteV) ∧ (∀ g, u.ownBlock = some g → w.heap.size ≤ g) ∧ Only (fun _ => False) w w') ∨
      (¬ Within at' bs.length ∧ e = .returned (.tuple #[.slice none 0 0, .iface 45 (.int .i64 8)]) ∧ Only (fun _ => False) w w') := by
  obtain ⟨va, vc, rfl⟩ := hv.shape
  have HK := Lib.hid hk; have HN := Lib.hid hn; have HV := Lib.hid hv; have HS := Lib.hid hS
  have HNEW : Hid (∀ w1, Calls Tryd.prog 47 #[.agg (key.map byteV).toArray, .agg (nonce.map byteV).toArray] w1 fun e w' => ∃ b, e = .returned (.pointer (some ⟨b, 0, none⟩)) ∧ StreamAt w' b key nonce 0 ∧ w1.heap.size ≤ b ∧ Only (fun _ => False) w1 w') := fun w1 => new_any HK.out HN.out
  clear hk hn hv hS
  unfold digV
  go_enter Tryd.func31, Tryd.ntmps31
  go_wp2_with (first
    | (refine wpList_load_row rfl 22 (.tmp 4) rfl w.heap.size rfl 22 (key.map byteV).toArray (0, 0) _ (KN.new w key nonce).kb.heap Tryd.underlying22 rfl (size_a32 HK.out) ?_)
    | (refine wpList_load_row rfl 64 (.tmp 5) rfl (w.heap.size + 1) rfl 64 (nonce.map byteV).toArray (0, 0) _ (KN.new w key nonce).nb.heap Tryd.underlying64 rfl (size_a12 HN.out) ?_)
    | (go_at_call 47; refine (HNEW.out _).mono ?_; rintro e w2 ⟨b, rfl, hs2, hb2, ho2⟩; have HS2 := Lib.hid hs2; have HO2 := Lib.hid ((KN.new w key nonce).only.trans ho2); have hbw : w.heap.size ≤ b := by { simp at hb2; omega }; clear ho2 hs2 hb2))
  by_cases hin : 0 ≤ at' ∧ at' ≤ 274877906944
  · obtain ⟨q, rfl⟩ := Int.eq_ofNat_of_zero_le hin.1
    have hq : q ≤ 274877906944 := by omega
    refine (seek_ok HS2.out hq).mono ?_
    rintro e w3 ⟨rfl, hs3, ho3⟩
    have ho3' : Only (fun _ => False) w w3 := HO2.out.andThen ho3 (fun k hk e => by omega)
    have HS3 := Lib.hid hs3; have HO3 := Lib.hid ho3'
    have hpa : PartsAt (w3.alloc (.cells #[.slice va bs.length vc] 23)) (fun k => k < (w3.alloc (.cells #[.slice va bs.length vc] 23)).heap.size) (.slice (some ⟨w3.heap.size, 0, none⟩) 1 1) [bs] :=
      part_at (Blk.new w3 [.slice va bs.length vc] 23) (HV.out.here (ho3'.trans (Only.alloc _)) HS.out) (fun _ h => h)
    have hx := sXOR_any (hs3.keep (Only.alloc _) (fun x => x)) hpa (fun _ h => h) ⟨by simp⟩ (by simpa using hlen)
    simp only [List.flatten_cons, List.flatten_nil, List.append_nil] at hx
    have HX := Lib.hid hx
    have hbl : b < w3.heap.size := hs3.blk.lt
    clear hs3 ho3 ho3' hpa hx hin HS2 HO2
    go_wp2_with fail
    refine HX.out.mono ?_
    have HOA : Hid (Only (fun _ => False) w (w3.alloc (.cells #[.slice va bs.length vc] 23))) := HO3.out.trans (Only.alloc _)
    have HSZ : Hid (w.heap.size ≤ (w3.alloc (.cells #[.slice va bs.length vc] 23)).heap.size) := HOA.out.size
    rintro e w9 (⟨h1, u, rfl, h2, h3, h4, h5⟩ | ⟨h1, rfl, h2⟩)
    · have HF : Hid (w9.ownsRow 0 5 1 u bs.length ((Ch.xor key nonce q bs).map byteV) ∧ (∀ g, u.ownBlock = some g → w.heap.size ≤ g) ∧ Only (fun _ => False) w w9) :=
        ⟨h2, fun g hg => Nat.le_trans HSZ.out (h3 g hg), HOA.out.andThen h5 (fun k hk e => by omega)⟩
      have HW : Hid (Within (q : Int) bs.length) := by show _ ∧ _; omega
      obtain ⟨ua, uc, rfl⟩ := row_shape h2
      clear h1 h2 h3 h4 h5 hq HX
      go_wp2
      go_ret2
      exact .inl ⟨HW.out, _, rfl, HF.out⟩
    · have HF : Hid (Only (fun _ => False) w w9) := HOA.out.trans h2
      have HW : Hid (¬ Within (q : Int) bs.length) := by show ¬ (_ ∧ _); omega
      rw [errV_pos (by decide)]
      clear h1 h2 hq HX
      go_wp2
      go_ret2
      exact .inr ⟨HW.out, rfl, HF.out⟩
  · refine (seek_err (w := w2) (b := b) (q := at') (by omega)).mono ?_
    rintro e w3 ⟨rfl, rfl⟩
    have HW : Hid (¬ Within at' bs.length) := by show ¬ (_ ∧ _); omega
    clear hin HS2
    go_wp2
    go_ret2
    exact .inr ⟨HW.out, rfl, HO2.out⟩

end Go.Proofs.YtgdnmbchhfbjoaaDoor
