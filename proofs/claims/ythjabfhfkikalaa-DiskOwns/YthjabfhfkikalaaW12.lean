/- Append. Conditions: counts far from an int's end; names no longer than Go's own limit; parts up to 2^47 bytes each. -/
import Derived.Test.YthjabfhfkikalaaBytes
namespace Go.Proofs.Ythjabfhfkikalaa
open Go.RowKit Go.Maps Go.WideMaps

/-- A file's bytes have grown. -/
theorem Rep.grow {w w' : World} {b : Nat} {ρ : Roles} {L : Lay} {s : Dm.St} (h : Rep w b ρ L s) {i : Nat} {f : Dm.Fil} {fl : Fl} (hf : s.files[i]? = some f) (hfl : L.fls[i]? = some fl) (bs : List UInt8) {a' : Option Addr} {c' : Nat}
    (hown : w'.ownsRow 0 5 1 (.slice a' (f.data.length + bs.length) c') (f.data.length + bs.length) (f.data.map byteV ++ bs.map byteV)) (hgr : w.grownBy w' fl.v.ownBlock)
    (hat : (Value.slice a' (f.data.length + bs.length) c').ownBlock = fl.v.ownBlock ∨ (Value.slice a' (f.data.length + bs.length) c').ownBlock = some w.heap.size) :
    ∃ ρ' L', Rep (w'.setCell ⟨fl.blk, 0, none⟩ (.slice a' (f.data.length + bs.length) c')) b ρ' L' (s.atFile i fun f => { f with data := f.data ++ bs }) ∧
      Moves ρ ρ' w (w'.setCell ⟨fl.blk, 0, none⟩ (.slice a' (f.data.length + bs.length) c')) ∧ ∀ j, blkOf L'.fls j = blkOf L.fls j := by
  obtain ⟨fl0, hfl0, hfa⟩ := h.files i f hf
  rw [hfl] at hfl0
  cases hfl0
  have hFb : fl.blk < w.heap.size := h.low _ (by rw [hfa.rb]; simp)
  have hnF : ∀ g, fl.v.ownBlock = some g → g ≠ fl.blk := fun g hg e => by have := hfa.rd g hg; rw [e, hfa.rb] at this; cases this
  have hnone : ∀ k, w.heap.size ≤ k → ρ k = none := fun k hk => by
    cases hx : ρ k with
    | none => rfl
    | some r => have := h.low k (by rw [hx]; simp); omega
  generalize hv' : Value.slice a' (f.data.length + bs.length) c' = v' at *
  have ho : Only (fun k => k = fl.blk ∨ some k = fl.v.ownBlock) w (w'.setCell ⟨fl.blk, 0, none⟩ v') :=
    ((Only.of_grown hgr).mono (fun _ _ h => .inr h)).trans ((Only.setCell _ _).mono fun _ _ h => .inl h)
  have hz := hgr.size
  have hF' : w'.heap[fl.blk]? = some (.cells #[fl.v, .int .i64 f.synced] 79 (0, 0)) := by
    rw [hgr.block _ hFb (fun e => hnF _ e.symm rfl)]; exact hfa.blk
  have hrho : ∀ k, ρ k ≠ none → (if v'.ownBlock = some k then some (Role.data i) else ρ k) = ρ k := by
    intro k hk
    split
    · rename_i e
      rcases hat with h1 | h1
      · rw [h1] at e; rw [hfa.rd k e]
      · rw [h1] at e; cases e; exact absurd (hnone _ (Nat.le_refl _)) hk
    · rfl
  have hlt' : ∀ k, v'.ownBlock = some k → k < w'.heap.size := fun k hk => (hown.lt k hk).2
  refine ⟨fun k => if v'.ownBlock = some k then some (.data i) else ρ k, { L with fls := L.fls.set i ⟨fl.blk, v'⟩ }, ?_, ⟨?_, ?_⟩, blkOf_set hfl rfl⟩
  · refine h.updFile hf hfl rfl ho hrho ?_ ⟨?_, ?_, ?_, ?_⟩
    · intro k hk
      rw [size_setCell]
      by_cases e : v'.ownBlock = some k
      · exact hlt' k e
      · simp only [e, if_false] at hk
        have := h.low k hk
        omega
    · exact heap_setCell_self hF' 0 _
    · have e1 : (f.data ++ bs).length = f.data.length + bs.length := by simp
      show World.ownsRow _ 0 5 1 v' (f.data ++ bs).length ((f.data ++ bs).map byteV)
      rw [e1, List.map_append]
      refine ownsRow_keep hown fun g hg => heap_setCell_ne _ _ ?_
      show g ≠ fl.blk
      rcases hat with h1 | h1
      · exact hnF g (by rw [← h1]; exact hg)
      · rw [h1] at hg; cases hg; omega
    · show (if v'.ownBlock = some fl.blk then some (Role.data i) else ρ fl.blk) = some (.file i)
      rw [hrho _ (by rw [hfa.rb]; simp)]
      exact hfa.rb
    · intro g hg
      simp only [hg, if_true]
  · exact ho.mono (by
      rintro k _ (rfl | hk)
      · rw [hfa.rb]; simp
      · rw [hfa.rd k hk.symm]; simp)
  · intro k hk
    show (if v'.ownBlock = some k then some (Role.data i) else ρ k) = ρ k
    split
    · rename_i e
      rcases hat with h1 | h1
      · rw [h1] at e; rw [hfa.rd k e]
      · rw [h1] at e; cases e; omega
    · rfl

theorem modify_id {l : List Dm.Fil} {i : Nat} {g : Dm.Fil → Dm.Fil} (h : ∀ f, g f = f) : l.modify i g = l := by
  have : g = id := funext h
  subst this
  exact List.modify_id i l
theorem atFile_id (s : Dm.St) (i : Nat) (g : Dm.Fil → Dm.Fil) (h : ∀ f, g f = f) : s.atFile i g = s := by
  unfold Dm.St.atFile
  rw [modify_id h]
theorem atFile_atFile (s : Dm.St) (i : Nat) (g k : Dm.Fil → Dm.Fil) : (s.atFile i g).atFile i k = s.atFile i (k ∘ g) := by
  unfold Dm.St.atFile
  simp [List.modify_modify_eq]

/-- The parts of an Append. -/
structure Parts (w : World) (ρ : Roles) (g : Nat) (ps : List (Value × List UInt8)) : Prop where
  cell : ∀ i (h : i < ps.length), w.cell? ⟨g, i, none⟩ = some ps[i].1
  row : ∀ p ∈ ps, BytesAt w (fun k => k < w.heap.size ∧ ρ k = none) p.1 p.2
  low : g < w.heap.size
  rg : ρ g = none
  few : ps.length < 2 ^ 32
  small : ∀ p ∈ ps, p.2.length ≤ 140737488355328

theorem Parts.moves {w w' : World} {ρ ρ' : Roles} {g : Nat} {ps : List (Value × List UInt8)} (h : Parts w ρ g ps) (m : Moves ρ ρ' w w') : Parts w' ρ' g ps where
  cell := fun i hi => by rw [World.cell?_of_block (w := w) (m.only.block g h.low (by rw [h.rg]; simp))]; exact h.cell i hi
  row := fun p hp => (h.row p hp).kept (fun k hk => m.only.block k hk.1 (by rw [hk.2]; simp)) (fun k hk => ⟨Nat.lt_of_lt_of_le hk.1 m.only.size, by rw [m.old k hk.1]; exact hk.2⟩)
  low := Nat.lt_of_lt_of_le h.low m.only.size
  rg := by rw [m.old g h.low]; exact h.rg
  few := h.few
  small := h.small

theorem Parts.lens {w : World} {ρ : Roles} {g : Nat} {ps : List (Value × List UInt8)} (h : Parts w ρ g ps) : ∀ i n, (ps.map fun p => p.2.length)[i]? = some n → ∃ a c, w.cell? ⟨g, i, none⟩ = some (.slice a n c) := by
  intro i n hn
  rw [List.getElem?_map, Option.map_eq_some_iff] at hn
  obtain ⟨p, hp, rfl⟩ := hn
  obtain ⟨hi, rfl⟩ := List.getElem?_eq_some_iff.1 hp
  obtain ⟨a, c, hs⟩ := (h.row ps[i] (List.getElem_mem hi)).shape
  exact ⟨a, c, by rw [h.cell i hi, hs]⟩

theorem sum_lens (ps : List (Value × List UInt8)) : (ps.map fun p => p.2.length).sum = (ps.flatMap fun p => p.2).length := by
  induction ps with
  | nil => rfl
  | cons p r ih => rw [List.map_cons, List.sum_cons, List.flatMap_cons, List.length_append, ih]

theorem fits_rep {w : World} {b : Nat} {ρ : Roles} {L : Lay} {s : Dm.St} (h : Rep w b ρ L s) (hwf : s.WF) {g cap : Nat} {ps : List (Value × List UInt8)} (hp : Parts w ρ g ps) :
    Calls Try.prog 49 #[.pointer (some ⟨b, 0, none⟩), .slice (some ⟨g, 0, none⟩) ps.length cap] w fun e w' => e = .returned (.bool (decide (s.used + (ps.flatMap fun p => p.2).length ≤ s.size))) ∧ Only (fun _ => False) w w' := by
  have := fits_some h hwf g cap (ps.map fun p => p.2.length) hp.low (by simpa using hp.few) (by
    intro n hn
    obtain ⟨p, hp', rfl⟩ := List.mem_map.1 hn
    exact hp.small p hp') hp.lens
  rw [sum_lens, List.length_map] at this
  exact this

theorem append_fin {b : Nat} {ρ : Roles} {w : World} {n : Nat} {s : Dm.St} {e : Ending} {w' : World} {ρ' : Roles} {L' : Lay} (he : e = .returned (errV n)) (hr : Rep w' b ρ' L' s) (hm : Moves ρ ρ' w w') : OpPost b ρ w (n, s) e w' := ⟨he, ρ', L', hr, hm⟩

set_option maxHeartbeats 1000000 in
theorem append_rep {w : World} {b : Nat} {ρ : Roles} {L : Lay} {s : Dm.St} (h : Rep w b ρ L s) (hwf : s.WF) (hst : s.steps < 2 ^ 62) (n : ByteArray) (hn : n.size ≤ maxLen) {g cap : Nat} {ps : List (Value × List UInt8)} (hp : Parts w ρ g ps) :
    Calls Try.prog 21 #[.pointer (some ⟨b, 0, none⟩), .string n, .slice (some ⟨g, 0, none⟩) ps.length cap] w (OpPost b ρ w (s.append n.data.toList (ps.flatMap fun p => p.2))) := by
  have HH := Lib.hid h
  have HP := Lib.hid hp
  rcases s.find_cases n.data.toList with ⟨i, hi⟩ | ⟨x, hx, hx0⟩
  · have hf := find_ok h n hn hi
    obtain ⟨_, _, hget⟩ := Dm.St.find_some hi
    have HI : Hid (i < s.files.length) := hwf.dir.id _ (Dm.get_mem hget)
    have HU : Hid ((s.dataOf i).length ≤ s.used) := Dm.used_ge hget
    have HZ : Hid (s.size ≤ 67108864) := hwf.size
    have HFI : Hid (∀ w1, Only (fun _ => False) w w1 → Calls Try.prog 49 #[.pointer (some ⟨b, 0, none⟩), .slice (some ⟨g, 0, none⟩) ps.length cap] w1 fun e w' => e = .returned (.bool (decide (s.used + (ps.flatMap fun p => p.2).length ≤ s.size))) ∧ Only (fun _ => False) w1 w') :=
      fun w1 ho => fits_rep (h.only_none ho) hwf (hp.moves (Moves.none ho))
    have HS : Hid (∀ w1, Only (fun _ => False) w w1 → Calls Try.prog 50 #[.pointer (some ⟨b, 0, none⟩)] w1 fun e w' => e = .returned (errV s.step.1) ∧ ∃ L', Rep w' b ρ L' s.step.2 ∧ L'.dir = L.dir ∧ L'.syn = L.syn ∧ L'.cv = L.cv ∧ L'.fls = L.fls ∧ Only (fun k => k = b ∨ some k = L.fo) w1 w') :=
      fun w1 ho => step_rep (h.only_none ho) hwf hst
    have HF4 : Hid (s.step.2.files = s.files) := s.step_same.2.2.2.1
    by_cases hfit : s.used + (ps.flatMap fun p => p.2).length ≤ s.size
    · have hd : decide (s.used + (ps.flatMap fun p => p.2).length ≤ s.size) = true := by simpa using hfit
      rw [hd] at HFI
      have hnl : ¬ s.size < s.used + (ps.flatMap fun p => p.2).length := by omega
      have HFIT := Lib.hid hfit
      by_cases he : s.step.1 = 0
      · have e : s.append n.data.toList (ps.flatMap fun p => p.2) = (0, s.step.2.atFile i fun f => { f with data := f.data ++ ps.flatMap fun p => p.2 }) := by simp only [Dm.St.append, hi]; rw [if_neg hnl, if_pos he]
        rw [e]
        rw [he, errV_zero] at HS
        have HDO : Hid (∀ f, s.step.2.files[i]? = some f → f.data.length + (ps.flatMap fun p => p.2).length ≤ 140737488355328) := by
          intro f hf
          rw [HF4.out] at hf
          have : s.dataOf i = f.data := by simp [Dm.St.dataOf, hf]
          have := HU.out; have := HZ.out; have := HFIT.out
          simp_all
          omega
        generalize s.step.2 = t at *
        clear e hi h hn hwf hst he hget hfit hd hnl hp
        go_enter Try.func21, Try.ntmps21
        go_wp2_with (first
          | (go_at_call 44; refine hf.mono ?_; rintro e w1 ⟨rfl, ho⟩; have hfi := HFI.out _ ho; have HO := Lib.hid ho; clear ho)
          | (go_at_call 49; refine hfi.mono ?_; rintro e w2 ⟨rfl, ho2⟩; have hs := HS.out _ (HO.out.trans ho2); have HO2 := Lib.hid ho2; clear ho2)
          | (go_at_call 50; refine hs.mono ?_; rintro e w3 ⟨rfl, L', hr, -, -, -, hL4, ho3⟩; have HR := Lib.hid hr; have HL4 := Lib.hid hL4; have HO3 := Lib.hid ho3; clear hr hL4 ho3))
        have HM3 : Hid (Moves ρ ρ w w3) := (Moves.none (HO.out.trans HO2.out)).trans ((HH.out.only_none (HO.out.trans HO2.out)).moves_only HO3.out)
        clear hf hfi hs HFI HS
        go_loopw [35] (fun ix wr => ∃ (k : Nat) (ρk : Roles) (Lk : Lay), k ≤ ps.length ∧ ix = .int .i64 k ∧ Rep wr b ρk Lk (t.atFile i fun f => { f with data := f.data ++ (ps.take k).flatMap fun p => p.2 }) ∧ Moves ρ ρk w wr ∧ ∀ j, blkOf Lk.fls j = blkOf L.fls j) (fun ix _ => ps.length - (intOf ix).toNat)
        case atStart => exact ⟨0, ρ, L', Nat.zero_le _, rfl, by rw [atFile_id _ _ _ (fun f => by simp)]; exact HR.out, HM3.out, fun j => by rw [HL4.out]⟩
        case round =>
          obtain ⟨k, ρk, Lk, hk, rfl, hrk, hmk, hbk⟩ := hrel
          have hfew := HP.out.few
          by_cases hlt : k < ps.length
          · -- the part, the file
            have hpk := HP.out.moves hmk
            have hpc := hpk.cell k hlt
            have hpr := hpk.row ps[k] (List.getElem_mem hlt)
            obtain ⟨pa, pc, hps⟩ := hpr.shape
            rw [hps] at hpc
            obtain ⟨f0, hf0⟩ : ∃ f, t.files[i]? = some f := ⟨_, List.getElem?_eq_getElem (by rw [HF4.out]; exact HI.out)⟩
            have hlen0 := HDO.out f0 hf0
            have hfk : (t.atFile i fun f => { f with data := f.data ++ (ps.take k).flatMap fun p => p.2 }).files[i]? = some { f0 with data := f0.data ++ (ps.take k).flatMap fun p => p.2 } := by simp [Dm.St.atFile, hf0]
            obtain ⟨fl, hfl, hfa⟩ := hrk.files i _ hfk
            have hF : fl.blk = blkOf L.fls i := by rw [← hbk i, blkOf_some hfl]
            have htk : (ps.take (k + 1)).flatMap (fun p => p.2) = (ps.take k).flatMap (fun p => p.2) ++ ps[k].2 := by rw [List.take_succ_eq_append_getElem hlt, List.flatMap_append]; simp
            have htl : ((ps.take k).flatMap (fun p => p.2)).length + ps[k].2.length ≤ (ps.flatMap fun p => p.2).length := by
              have h1 : ps.flatMap (fun p => p.2) = (ps.take (k + 1)).flatMap (fun p => p.2) ++ (ps.drop (k + 1)).flatMap (fun p => p.2) := by rw [← List.flatMap_append, List.take_append_drop]
              rw [h1, htk]
              simp only [List.length_append]
              omega
            obtain ⟨va, vc, hvs⟩ := row_shape hfa.row
            have hc0 : wr.cell? ⟨blkOf L.fls i, 0, none⟩ = some (.slice va (f0.data ++ (ps.take k).flatMap fun p => p.2).length vc) := by rw [← hF, cell_of hfa.blk, hvs]; rfl
            have hnF : fl.v.ownBlock ≠ some (blkOf L.fls i) := fun e => by have := hfa.rd _ e; rw [← hF, hfa.rb] at this; cases this
            have hFl : blkOf L.fls i < wr.heap.size := by rw [← hF]; exact lt_of_heap hfa.blk
            have hFz : wr.frozen? ⟨blkOf L.fls i, 0, none⟩ = false := by rw [← hF]; exact frozen_of hfa.blk 0
            have hrow := hfa.row
            rw [hvs] at hrow hnF
            have HROW := Lib.hid hrow
            have HPR : Hid (BytesAt wr (fun k => k < wr.heap.size ∧ ρk k = none) (.slice pa ps[k].2.length pc) ps[k].2) := by rw [← hps]; exact hpr
            have HLEN : Hid ((f0.data ++ (ps.take k).flatMap fun p => p.2).length + ps[k].2.length ≤ 140737488355328) := by unfold Hid; simp only [List.length_append]; omega
            have HGROW : Hid (∀ (w' : World) (a' : Option Addr) (c' : Nat), w'.ownsRow 0 5 1 (.slice a' ((f0.data ++ (ps.take k).flatMap fun p => p.2).length + ps[k].2.length) c') ((f0.data ++ (ps.take k).flatMap fun p => p.2).length + ps[k].2.length) ((f0.data ++ (ps.take k).flatMap fun p => p.2).map byteV ++ ps[k].2.map byteV) →
                wr.grownBy w' (Value.slice va (f0.data ++ (ps.take k).flatMap fun p => p.2).length vc).ownBlock → ((Value.slice a' ((f0.data ++ (ps.take k).flatMap fun p => p.2).length + ps[k].2.length) c').ownBlock = (Value.slice va (f0.data ++ (ps.take k).flatMap fun p => p.2).length vc).ownBlock ∨ (Value.slice a' ((f0.data ++ (ps.take k).flatMap fun p => p.2).length + ps[k].2.length) c').ownBlock = some wr.heap.size) →
                ∃ (ρ' : Roles) (L' : Lay), Rep (w'.setCell ⟨blkOf L.fls i, 0, none⟩ (.slice a' ((f0.data ++ (ps.take k).flatMap fun p => p.2).length + ps[k].2.length) c')) b ρ' L' (t.atFile i fun f => { f with data := f.data ++ (ps.take (k + 1)).flatMap fun p => p.2 }) ∧ Moves ρ ρ' w (w'.setCell ⟨blkOf L.fls i, 0, none⟩ (.slice a' ((f0.data ++ (ps.take k).flatMap fun p => p.2).length + ps[k].2.length) c')) ∧ ∀ j, blkOf L'.fls j = blkOf L.fls j) := by
              intro w' a' c' h1 h2 h3
              rw [← hvs] at h2 h3
              obtain ⟨ρ', L', r1, r2, r3⟩ := hrk.grow hfk hfl ps[k].2 h1 h2 h3
              rw [hF] at r1 r2
              refine ⟨ρ', L', ?_, hmk.trans r2, fun j => (r3 j).trans (hbk j)⟩
              rw [atFile_atFile] at r1
              rw [htk]
              have eg : ((fun f : Dm.Fil => { f with data := f.data ++ ps[k].2 }) ∘ fun f : Dm.Fil => { f with data := f.data ++ (ps.take k).flatMap fun p => p.2 }) = fun f : Dm.Fil => { f with data := f.data ++ ((ps.take k).flatMap (fun p => p.2) ++ ps[k].2) } := by
                funext f; simp [Function.comp]
              rw [eg] at r1
              exact r1
            generalize (f0.data ++ (ps.take k).flatMap fun p => p.2).length = nk at *
            generalize (f0.data ++ (ps.take k).flatMap fun p => p.2).map byteV = xk at *
            generalize blkOf L.fls i = F at *
            generalize ps[k].2 = bk at *
            clear hpk hpr hps hf0 hlen0 hfk hfl hfa hF htk htl hvs hrow hrk hmk hbk
            go_wp2_with (at_builtin; refine wpList_append_bytes _ rfl _ _ rfl _ _ nk xk rfl rfl HROW.out HPR.out HLEN.out ?_; intro a' c' w5 hown hgr hat; have hx5 := hgr.block F hFl (Ne.symm hnF); have hc5 := (World.cell?_of_block (a := ⟨F, 0, none⟩) hx5).trans hc0; have hz5 := (World.frozen?_of_block (a := ⟨F, 0, none⟩) hx5).trans hFz; have HG := Lib.hid (HGROW.out w5 a' c' hown hgr hat); clear hown hgr hat hx5)
            go_roundw
            case rel =>
              obtain ⟨ρ', L', r1, r2, r3⟩ := HG.out
              exact ⟨k + 1, ρ', L', by omega, by go_num, r1, r2, r3⟩
            case measure => simp [intOf]; omega
          · have hk' : k = ps.length := by omega
            subst hk'
            rw [List.take_length] at hrk
            have HRK := Lib.hid hrk; have HMK := Lib.hid hmk
            clear hrk hmk hbk
            go_wp2
            go_ret
            exact append_fin rfl HRK.out HMK.out
      · have e : s.append n.data.toList (ps.flatMap fun p => p.2) = (s.step.1, s.step.2) := by simp only [Dm.St.append, hi]; rw [if_neg hnl, if_neg he]
        rw [e]
        rw [errV_pos he] at HS
        have HE := Lib.hid he
        generalize s.step.1 = x at *
        generalize s.step.2 = t at *
        clear e hi h hn hwf hst he hget hfit hd hnl hp
        go_enter Try.func21, Try.ntmps21
        go_wp2_with (first
          | (go_at_call 44; refine hf.mono ?_; rintro e w1 ⟨rfl, ho⟩; have hfi := HFI.out _ ho; have HO := Lib.hid ho; clear ho)
          | (go_at_call 49; refine hfi.mono ?_; rintro e w2 ⟨rfl, ho2⟩; have hs := HS.out _ (HO.out.trans ho2); have HO2 := Lib.hid ho2; clear ho2)
          | (go_at_call 50; refine hs.mono ?_; rintro e w3 ⟨rfl, L', hr, -, -, -, hL4, ho3⟩; have HR := Lib.hid hr; have HL4 := Lib.hid hL4; have HO3 := Lib.hid ho3; clear hr hL4 ho3))
        go_ret
        exact append_fin (by rw [errV_pos HE.out]; rfl) HR.out ((Moves.none (HO.out.trans HO2.out)).trans ((HH.out.only_none (HO.out.trans HO2.out)).moves_only HO3.out))
    · have hd : decide (s.used + (ps.flatMap fun p => p.2).length ≤ s.size) = false := by simpa using hfit
      rw [hd] at HFI
      have e : s.append n.data.toList (ps.flatMap fun p => p.2) = (3, s) := by simp only [Dm.St.append, hi]; rw [if_pos (by omega)]
      rw [e]
      clear e hi h hn hwf hst hget hfit hd hp HS
      go_enter Try.func21, Try.ntmps21
      go_wp2_with (first
        | (go_at_call 44; refine hf.mono ?_; rintro e w1 ⟨rfl, ho⟩; have hfi := HFI.out _ ho; have HO := Lib.hid ho; clear ho)
        | (go_at_call 49; refine hfi.mono ?_; rintro e w2 ⟨rfl, ho2⟩; have HO2 := Lib.hid ho2; clear ho2))
      go_ret
      exact OpPost.same HH.out (HO.out.trans HO2.out) rfl
  · have e : s.append n.data.toList (ps.flatMap fun p => p.2) = (x, s) := by
      unfold Dm.St.append
      rw [hx]
      cases x with
      | zero => exact absurd rfl hx0
      | succ x => rfl
    have hf := find_no h n hn hx hx0
    rw [e]
    have HX := Lib.hid hx0
    clear e hx h hn hwf hst hx0 hp
    go_enter Try.func21, Try.ntmps21
    go_wp2_with (go_at_call 44; refine hf.mono ?_; rintro e w1 ⟨rfl, ho⟩; have HO := Lib.hid ho; clear ho)
    go_ret
    exact OpPost.same HH.out HO.out (by rw [errV_pos HX.out]; rfl)

end Go.Proofs.Ythjabfhfkikalaa
