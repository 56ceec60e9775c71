/- ustar.Encode. Conditions: texts within the reach. -/
import Derived.Test.YtemfelonfokcnaaUsEncA
namespace Go.Proofs.Ytemfelonfokcnaa
open Go.RowKit

theorem enc_new {w1 w2 : World} {Z : Array Value} (hZ : ((Us.zs 512).map byteV).toArray = Z) (hq : Quiet (w1.alloc (.cells Z 5)) w2) : Blk w2 w1.heap.size ((Us.zs 512).map byteV) 5 := by
  subst hZ
  exact (Blk.new w1 _ _).keep hq (fun x => x)
theorem enc_lt {w w1 : World} {g : Nat} {L : List Value} {t : TypeId} (hb : Blk w1 g L t) (_ : Quiet w w1) : g < w1.heap.size := hb.lt
theorem enc_sizes {l q nm : Us.By} {a b : ByteArray} (h : Us.Parts l q nm) (ea : a.data.toList = q) (eb : b.data.toList = nm) : b.size ≤ 100 ∧ a.size ≤ 155 := by
  have h1 := h.ql; have h2 := h.nl
  subst ea eb
  simp at h1 h2
  exact ⟨h2, h1⟩

theorem Us.set_one {l : Us.By} {o : Nat} {b : UInt8} (h : o < l.length) : l.set o b = splice l o [b] := by
  unfold splice
  rw [List.set_eq_take_append_cons_drop, if_pos h]
  rfl

set_option maxRecDepth 100000 in
set_option maxHeartbeats 4000000 in
theorem encode_ok (h : Hd) (hp : h.path.size ≤ 140737488351232) (hf : Us.fits h = true) (w : World) :
    Calls Try.prog 9 #[hdV h] w fun e w' => ∃ g, e = .returned (.tuple #[.slice (some ⟨g, 0, none⟩) 512 512, .nilIface]) ∧ Blk w' g ((Us.enc h).map byteV) 5 ∧ w.heap.size ≤ g ∧ Quiet w w' := by
  have HF := Lib.hid (fun W => fits_any h hp W)
  rw [hf] at HF
  obtain ⟨q, nm, F⟩ := Us.fit_of hf
  have HPT := Lib.hid (fun W => parted_any h.path hp W)
  rw [F.parts] at HPT
  change Hid (∀ W, Calls _ _ _ W fun e w' => ∃ a b, e = .returned (.tuple #[.string a, .string b, .bool true]) ∧ PartedTo _ a b ∧ Quiet W w') at HPT
  have HFP : Hid (∀ a b, PartedTo h.path.data.toList a b → a.data.toList = q ∧ b.data.toList = nm) := fun a b hab => hab q nm F.parts
  have HPS := Lib.hid (Us.parts_of F.parts)
  have HENC := Lib.hid F.enc
  have HF2 := Lib.hid F
  have hmk := make_512
  have hll := F.ll
  have HB0 := Lib.hid (Blk.new w (hdL h) 23)
  have HQ0 : Hid (Quiet w (w.alloc (.cells (hdL h).toArray 23))) := Only.alloc _
  have hlsz : h.link.size ≤ 100 := by have : h.link.data.toList.length = h.link.size := by simp
                                      omega
  clear hp hf hll F
  obtain ⟨c0, c1, c2, c3, c4, c5, c6, c7, fz⟩ := hd_cells HB0.out
  obtain ⟨H, hH⟩ : ∃ H, H = h := ⟨_, rfl⟩
  unfold hdV at HF ⊢
  obtain ⟨Z, hZ⟩ : ∃ Z, ((Us.zs 512).map byteV).toArray = Z := ⟨_, rfl⟩
  simp only [hZ] at hmk
  have HZ := Lib.hid hZ
  clear hZ hH
  go_enter Try.func9, Try.ntmps9
  go_wp2_with (first
    | (go_at_call 25; refine (HF.out _).mono ?_; rintro e w1 ⟨rfl, hq⟩; have HB1 := Lib.hid (HB0.out.keep hq (fun x => x)); have HQ1 := Lib.hid (HQ0.out.trans hq); obtain ⟨d0, d1, d2, d3, d4, d5, d6, d7, dz⟩ := hd_cells (HB1.out.alloc (.cells Z 5)); clear hq)
    | (go_at_call 26; refine (HPT.out _).mono ?_; rintro e w2 ⟨a, b, rfl, hab, hq⟩; obtain ⟨ea, eb⟩ := HFP.out a b hab; clear hab;
       have s0 := blk_sl0 w1.heap.size; have s345 := blk_sl345 w1.heap.size; have s157 := blk_sl157 w1.heap.size; have s257 := blk_sl257 w1.heap.size; have s329 := blk_sl329 w1.heap.size;
       have HA2 := Lib.hid ((HB1.out.alloc (.cells Z 5)).keep hq (fun x => x)); have HK2 := Lib.hid (enc_new HZ.out hq); have HQ2 := Lib.hid (HQ1.out.trans ((Only.alloc (.cells Z 5)).trans hq)); have HG := Lib.hid (enc_lt HB1.out HQ1.out);
       obtain ⟨bz, az⟩ := enc_sizes HPS.out ea eb; clear hq)
    | (refine wpList_copy_txt rfl _ _ rfl w1.heap.size 0 512 512 b rfl rfl HK2.out (Nat.le_trans bz (by decide)) (by rw [Us.zs_len]; omega) ?_; intro w3 hb3 ho3; have HK3 := Lib.hid hb3; have HO3 := Lib.hid ho3; clear hb3 ho3)
    | (refine wpList_copy_txt rfl _ _ rfl w1.heap.size 345 167 167 a rfl rfl HK3.out (Nat.le_trans az (by decide)) (by rw [length_splice _ _ _ (by simp [Us.zs_len]; omega), Us.zs_len]; omega) ?_; intro w4 hb4 ho4; have HK4 := Lib.hid hb4; have HO4 := Lib.hid (HO3.out.trans ho4); clear hb4 ho4))
  clear c0 c1 c2 c3 c4 c5 c6 c7 fz d0 d1 d2 d3 d4 d5 d6 d7 dz
  have HNE : Hid (¬ w.heap.size = w1.heap.size) := fun e => by have := HG.out; omega
  obtain ⟨d0, d1, d2, d3, d4, d5, d6, d7, dz⟩ := hd_cells (HA2.out.keep HO4.out HNE.out)
  go_still_tail 4, (by kernel_rfl)
  change wpList _ _ _ _ _ w4.drew
  have HK5 := Lib.hid HK4.out.drew
  have HO5 := Lib.hid (HO4.out.trans (Only.drew.mono (fun _ _ x => x.elim)))
  clear d0 d1 d2 d3 d4 d5 d6 d7 dz HK4 HO4 HK3 HO3 HK2
  generalize w4.drew = w5 at *
  have HL5 : Hid ((splice (splice (Us.zs 512) 0 b.data.toList) 345 a.data.toList).length = 512) := by
    unfold Hid; rw [length_splice _ _ _ (by rw [length_splice _ _ _ (by simp [Us.zs_len]; omega), Us.zs_len]; simp; omega), length_splice _ _ _ (by simp [Us.zs_len]; omega), Us.zs_len]
  have HNU := Lib.hid (fun W => numbers_any w.heap.size W)
  go_wp2_with (first
    | (refine wpList_copy_txt rfl _ _ rfl w1.heap.size 157 355 355 h.link rfl rfl HK5.out (Nat.le_trans hlsz (by decide)) (by rw [HL5.out]; omega) ?_; intro w6 hb6 ho6; have HK6 := Lib.hid hb6; have HO6 := Lib.hid (HO5.out.trans ho6); clear hb6 ho6)
    | (go_at_call 27; refine (HNU.out _).mono ?_; rintro e w7 ⟨rfl, hq⟩; have HK7 := Lib.hid (HK6.out.keep hq (fun x => x)); have HO7 := Lib.hid (HO6.out.trans (hq.mono (fun _ _ x => x.elim))); clear hq))
  have HL6 : Hid ((splice (splice (splice (Us.zs 512) 0 b.data.toList) 345 a.data.toList) 157 h.link.data.toList).length = 512) := by
    unfold Hid; rw [length_splice _ _ _ (by rw [HL5.out]; simp; omega), HL5.out]
  rw [ea, eb] at HK7 HL6
  obtain ⟨l0, hl0⟩ : ∃ l0, splice (splice (splice (Us.zs 512) 0 nm) 345 q) 157 h.link.data.toList = l0 := ⟨_, rfl⟩
  rw [hl0] at HK7 HL6
  have HL0 := Lib.hid hl0
  clear hl0 HK5 HK6 HO5 HO6 HL5
  have HA7 := Lib.hid (HA2.out.keep HO7.out HNE.out)
  clear HA2 s0 s345 s157 HPT HFP
  obtain ⟨w8, hw8⟩ : ∃ x, x = w7 := ⟨_, rfl⟩
  subst hw8
  go_loopw [36] (fun iv wr => ∃ j : Nat, j ≤ 5 ∧ iv = .int .i64 (j : Int) ∧ Blk wr w1.heap.size ((Us.putNums l0 ((Us.fields h).take j)).map byteV) 5 ∧ Only (fun k => k = w1.heap.size) w8 wr) (fun iv _ => 5 - (intOf iv).toNat)
  case atStart => exact ⟨0, Nat.zero_le _, rfl, HK7.out, Only.refl _ _⟩
  case round =>
    obtain ⟨j, hj, rfl, hb, ho⟩ := hrel
    by_cases hlt : j < 5
    · have hix := num_index w.heap.size j hlt
      obtain ⟨f1, f2⟩ := Us.fo_fd j hlt
      obtain ⟨v1, v2⟩ := Us.fv_ok HF2.out j hlt
      have hlen := Us.putNums_len l0 h HL6 j hj
      have hsu := Us.putNums_succ l0 h j hlt
      have hbx := HA7.out.keep ho HNE.out
      have hcell : wr.cell? ⟨w.heap.size, j + 1, none⟩ = some (.int .i64 (Us.fv h j)) := by rw [hbx.cell]; exact Us.fv_cell h j hlt
      have hsl : ∀ W : World, (Instr.slice 25 (.slice (some ⟨w1.heap.size, 0, none⟩) 512 512) (some (.int .i64 (Us.fo j : Int))) (some (.int .i64 ((Us.fo j : Int) + (Us.fd j : Int)))) none).run Try.prog W = .ok (.slice (some ⟨w1.heap.size, Us.fo j, none⟩) (Us.fd j) (512 - Us.fo j)) W := fun W => by
        have := slice_oh (g := w1.heap.size) (o := 0) (n := 512) (c := 512) (l := Us.fo j) (h := Us.fo j + Us.fd j) (by omega) (by omega) (by omega) W
        rw [Nat.zero_add, Nat.add_sub_cancel_left] at this
        push_cast at this
        exact this
      obtain ⟨n, hn⟩ : ∃ n : Nat, Us.fv h j = (n : Int) := ⟨(Us.fv h j).toNat, by omega⟩
      rw [hn] at hcell hsu v2
      rw [show ((n : Int).toNat) = n by omega] at hsu
      have hlt8 := hbx.lt
      have hltg := hb.lt
      have HB8 := Lib.hid hb; have HO8 := Lib.hid ho; have HC8 := Lib.hid hcell
      have HS8 := Lib.hid hsu; have HLEN := Lib.hid hlen
      have HLT8 := Lib.hid hlt8
      have HLTW : Hid (w8.heap.size ≤ wr.heap.size) := ho.size
      have v3 : n < 9223372036854775808 := by omega
      have HV2 := Lib.hid v3
      clear v3
      clear hb ho hbx hcell hsu hlen hn v1 v2
      generalize Us.fo j = o at *
      generalize Us.fd j = d at *
      go_wp2_with fail
      have hbN : Blk (wr.alloc (.cells #[.int .i64 (o : Int), .int .i64 (d : Int), .pointer (some ⟨w.heap.size, j + 1, none⟩)] 53)) wr.heap.size [.int .i64 (o : Int), .int .i64 (d : Int), .pointer (some ⟨w.heap.size, j + 1, none⟩)] 53 := Blk.new wr _ _
      have hoN : Only (fun _ => False) wr (wr.alloc (.cells #[.int .i64 (o : Int), .int .i64 (d : Int), .pointer (some ⟨w.heap.size, j + 1, none⟩)] 53)) := Only.alloc _
      generalize wr.alloc (.cells #[.int .i64 (o : Int), .int .i64 (d : Int), .pointer (some ⟨w.heap.size, j + 1, none⟩)] 53) = wN at *
      clear hix
      have n0 : wN.cell? ⟨wr.heap.size, 0, none⟩ = some (.int .i64 (o : Int)) := hbN.cell 0
      have n1 : wN.cell? ⟨wr.heap.size, 1, none⟩ = some (.int .i64 (d : Int)) := hbN.cell 1
      have n2 : wN.cell? ⟨wr.heap.size, 2, none⟩ = some (.pointer (some ⟨w.heap.size, j + 1, none⟩)) := hbN.cell 2
      have n3 : wN.cell? ⟨w.heap.size, j + 1, none⟩ = some (.int .i64 (n : Int)) := by
        rw [World.cell?_of_block (hoN.block w.heap.size HLT8.out (fun x => x))]; exact HC8.out
      have HBN := Lib.hid ((HB8.out.keep hoN (fun x => x)).drew)
      have HON := Lib.hid ((HO8.out.trans (hoN.mono (fun _ _ x => x.elim))).trans (Only.drew.mono (fun _ _ x => x.elim)))
      clear hbN hoN
      have hwr : IntKind.i64.wrap ((o : Int) + (d : Int)) = (o : Int) + (d : Int) := IntWalk.i64_in _ (by omega)
      go_still_tail 13, (by kernel_rfl)
      change wpList _ _ _ _ _ wN.drew
      clear n0 n1 n2 n3 hwr
      generalize wN.drew = wD at *
      have HPO := Lib.hid (putOctal_any (c := 512 - o) HBN.out (by rw [List.length_map, HLEN.out]; omega) (by rw [List.length_map, HLEN.out]; omega) n HV2.out (o := o) (d := d))
      go_wp2_with (go_at_call 28; refine HPO.out.mono ?_; rintro e wE ⟨rfl, hbE, hoE⟩; have HBE := Lib.hid hbE; have HOE := Lib.hid (HON.out.trans hoE); clear hbE hoE)
      go_roundw
      case rel =>
        refine ⟨j + 1, by omega, by go_num, ?_, HOE.out⟩
        rw [HS8.out, ← Us.splice_map]
        exact HBE.out
      case measure => simp [intOf]; omega
    · obtain rfl : j = 5 := by omega
      have hL5 := Us.putNums_len l0 h HL6 5 (Nat.le_refl _)
      rw [show (Us.fields h).take 5 = Us.fields h from rfl] at hb hL5
      obtain ⟨L5, hl5⟩ : ∃ L5, Us.putNums l0 (Us.fields h) = L5 := ⟨_, rfl⟩
      rw [hl5] at hb hL5
      obtain ⟨d0, d1, d2, d3, d4, d5, d6, d7, dz⟩ := hd_cells (HA7.out.keep ho HNE.out)
      have ct : wr.cell? ⟨w1.heap.size, 156, none⟩ = some (byteV (L5[156]'(by rw [hL5]; decide))) := by
        rw [hb.cell, List.getElem?_map, List.getElem?_eq_getElem (by rw [hL5]; decide)]; rfl
      have ft := hb.frozen 156
      generalize byteV (L5[156]'(by rw [hL5]; decide)) = old at ct
      have hs := hb.set 156 (byteV h.type)
      rw [← List.map_set, Us.set_one (by rw [hL5]; decide)] at hs
      have HS := Lib.hid hs
      have HSO := Lib.hid (ho.trans (Only.setCell ⟨w1.heap.size, 156, none⟩ (byteV h.type)))
      have HLS : Hid ((splice L5 156 [h.type]).length = 512) := by unfold Hid; rw [length_splice _ _ _ (by rw [hL5]; simp), hL5]
      have HLM : Hid ((splice (splice L5 156 [h.type]) 257 Us.mag).length = 512) := by unfold Hid; rw [length_splice _ _ _ (by rw [HLS.out]; decide), HLS.out]
      have HLD : Hid ((splice (splice (splice L5 156 [h.type]) 257 Us.mag) 329 Us.dev).length = 512) := by unfold Hid; rw [length_splice _ _ _ (by rw [HLM.out]; decide), HLM.out]
      have HL5 := Lib.hid hl5
      have HMADE : Hid (Us.made q nm h = splice (splice (splice (splice L5 156 [h.type]) 257 Us.mag) 329 Us.dev) 148 (Us.sumT (Us.tot (splice (splice (splice (splice L5 156 [h.type]) 257 Us.mag) 329 Us.dev) 148 Us.blanks)))) := by
        unfold Hid Us.made
        rw [HL0.out, HL5.out]
      clear hb ho hs hl5 hL5
      unfold byteV at HS HSO
      go_wp2_with (first
        | (refine wpList_copy_txt rfl _ _ rfl w1.heap.size 257 255 255 ⟨#[117, 115, 116, 97, 114, 0, 48, 48]⟩ rfl rfl HS.out (by decide) (by rw [HLS.out]; decide) ?_; intro wF hbF hoF; have HBF : Hid (Blk wF w1.heap.size ((splice (splice L5 156 [h.type]) 257 Us.mag).map byteV) 5) := hbF; have HOF := Lib.hid (HSO.out.trans hoF); clear hbF hoF)
        | (refine wpList_copy_txt rfl _ _ rfl w1.heap.size 329 183 183 ⟨#[48, 48, 48, 48, 48, 48, 48, 0, 48, 48, 48, 48, 48, 48, 48, 0]⟩ rfl rfl HBF.out (by decide) (by rw [HLM.out]; decide) ?_; intro wG hbG hoG; have HBG : Hid (Blk wG w1.heap.size ((splice (splice (splice L5 156 [h.type]) 257 Us.mag) 329 Us.dev).map byteV) 5) := hbG; have HOG := Lib.hid (HOF.out.trans hoG); clear hbG hoG)
        | (go_at_call 29; refine (putSum_any HBG.out HLD.out (by decide)).mono ?_; rintro e wH ⟨rfl, hbH, hoH⟩; have HBH := Lib.hid hbH; have HOH := Lib.hid (HOG.out.trans hoH); clear hbH hoH))
      go_ret2
      refine ⟨w1.heap.size, rfl, ?_, Nat.le_of_lt HG.out, ?_⟩
      · rw [HENC.out, ← Us.made_eq HPS.out.ql HPS.out.nl HF2.out.ll, HMADE.out]
        exact HBH.out
      · have h2 := HO7.out.trans HOH.out
        exact HQ2.out.andThen h2 (fun k hk e => by have := HG.out; omega)

end Go.Proofs.Ytemfelonfokcnaa
